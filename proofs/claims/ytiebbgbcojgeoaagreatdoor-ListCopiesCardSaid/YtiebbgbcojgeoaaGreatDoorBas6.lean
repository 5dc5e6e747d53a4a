/- Texts put together: GB, PN, PW, PX, PY, GD, PZ, TF, FO, TB, TC, FP. -/
import Derived.Laws.AppendOwnNone
import Derived.Deep.DeepCutAuto
import Derived.Test.YtiebbgbcojgeoaaGreatDoorBas2
import Derived.Test.YtiebbgbcojgeoaaGreatDoorBas4
import Derived.Test.YtiebbgbcojgeoaaGreatDoorBas5
set_option linter.unusedVariables false
namespace Go.Proofs.YtiebbgbcojgeoaaGreatDoor
open Go.RowKit Go.Shelf

def minF (fs : List (List UInt8 × List UInt8)) : Nat := (fs.map fun f => min f.1.length 10000 + min f.2.length 10000).sum
theorem minF_snoc (fs : List (List UInt8 × List UInt8)) (f : List UInt8 × List UInt8) : minF (fs ++ [f]) = minF fs + (min f.1.length 10000 + min f.2.length 10000) := by unfold minF; simp
theorem minF_small : ∀ (fs : List (List UInt8 × List UInt8)), minF fs ≤ 6000 → ∀ f ∈ fs, f.1.length ≤ 6000 ∧ f.2.length ≤ 6000
  | [], _, f, hf => by simp at hf
  | a :: r, h, f, hf => by
    have e : minF (a :: r) = (min a.1.length 10000 + min a.2.length 10000) + minF r := rfl
    rw [e] at h
    rcases List.mem_cons.1 hf with rfl | hf
    · omega
    · exact minF_small r (by omega) f hf
structure FldsIn (w : World) (v : Value) (fs : List (List UInt8 × List UInt8)) : Prop where
  flds : Flds w v fs
  nil : ∀ n c, v = .slice none n c → c = 0
  len : fs.length ≤ maxLen
  each : ∀ f ∈ fs, f.1.length ≤ maxLen ∧ f.2.length ≤ maxLen

def MuchR (fs : List (List UInt8 × List UInt8)) (e : Ending) : Prop := ∃ b : Bool, e = .returned (.bool b) ∧ (b = false → fs.length ≤ 61 ∧ (∀ f ∈ fs, f.1.length ≤ 6000 ∧ f.2.length ≤ 6000) ∧ minF fs ≤ 6000)
set_option maxRecDepth 100000 in
set_option maxHeartbeats 4000000 in
theorem much_any (fs : List (List UInt8 × List UInt8)) (v : Value) (w : World) (hs : Flds w v fs) (hm : fs.length ≤ maxLen) (he : ∀ f ∈ fs, f.1.length ≤ maxLen ∧ f.2.length ≤ maxLen) :
    Calls Tryz.prog 50 #[v] w fun e w' => MuchR fs e ∧ Below w.heap.size w w' := by
  obtain ⟨A, cap, rfl, hle, hc⟩ := hs
  have PC := Lib.hid hc
  have EA := Lib.hid he
  clear hc he
  unfold maxLen at hm
  go_enter Tryz.func50, Tryz.ntmps50
  go_wp2_with fail
  go_loopw [3, 8] (fun s i wr => ∃ k : Nat, k ≤ fs.length ∧ k ≤ 61 ∧ i = .int .i64 k ∧ s = .int .i64 (minF (fs.take k) : Nat) ∧ minF (fs.take k) ≤ 6000 ∧ Below w.heap.size w wr) (fun _ i _ => fs.length - (intOf i).toNat)
  case atStart => exact ⟨0, Nat.zero_le _, by decide, rfl, rfl, by simp [minF], Below.refl _ _⟩
  case round =>
    obtain ⟨k, hk, hk61, rfl, rfl, hms, hb⟩ := hrel
    by_cases hlt : k < fs.length
    · obtain ⟨f, hf⟩ : ∃ f, fs[k]? = some f := ⟨_, List.getElem?_eq_getElem hlt⟩
      obtain ⟨b, off, rfl, hbb, c0, c1⟩ := PC.out k f hf
      replace c0 := (hb.cell (p := ⟨b, off + k * 2, none⟩) hbb).trans c0
      replace c1 := (hb.cell (p := ⟨b, off + k * 2 + 1, none⟩) hbb).trans c1
      have T1 : Hid (minF (fs.take (k + 1)) = minF (fs.take k) + (min f.1.length 10000 + min f.2.length 10000)) := by
        show _ = _
        rw [List.take_add_one, hf]; exact minF_snoc _ _
      obtain ⟨l1, l2⟩ := EA.out f (List.mem_of_getElem? hf)
      unfold maxLen at l1 l2
      have y1 := B_size f.1
      have y2 := B_size f.2
      have m1 : ((min f.1.length 10000 : Nat) : Int) = min (f.1.length : Int) 10000 := by omega
      have m2 : ((min f.2.length 10000 : Nat) : Int) = min (f.2.length : Int) 10000 := by omega
      have hba := hb.alloc hb.size (.cells #[.string (B f.1), .string (B f.2)] 73)
      clear hf
      generalize minF (fs.take k) = m at *
      by_cases h60 : 60 < k
      · go_wp2_with fail
        go_ret
        exact ⟨⟨true, rfl, fun h => by cases h⟩, hba⟩
      · by_cases hm4 : 6000 < m + (min f.1.length 10000 + min f.2.length 10000)
        · go_wp2_with fail
          go_ret
          exact ⟨⟨true, rfl, fun h => by cases h⟩, hba⟩
        · go_wp2_with fail
          go_roundw
          case rel => exact ⟨k + 1, hlt, by omega, by go_num, by rw [T1.out, Int.natCast_add, Int.natCast_add, m1, m2], by rw [T1.out]; omega, hba⟩
          case measure => simp [intOf]; omega
    · obtain rfl : k = fs.length := by omega
      rw [List.take_length] at hms
      have SM := Lib.hid (minF_small fs hms)
      clear PC EA
      go_wp2_with fail
      go_ret
      exact ⟨⟨false, rfl, fun _ => ⟨hk61, SM.out, hms⟩⟩, hb⟩
set_option maxRecDepth 100000 in
set_option maxHeartbeats 4000000 in
theorem fields_quiet (fs : List (List UInt8 × List UInt8)) (v v' : Value) (w : World) (h : Flds w v fs) (h' : Flds w v' fs) (hn : fs.length ≤ 1000000) :
    Calls Tryz.prog 21 #[v, v'] w fun e w' => e = .returned (.bool true) ∧ ∃ m, w' = w.drewN m := by
  obtain ⟨A, cap, rfl, hle, hc⟩ := h
  obtain ⟨A', cap', rfl, hle', hc'⟩ := h'
  have PC := Lib.hid hc
  have PC' := Lib.hid hc'
  clear hc hc'
  go_enter Tryz.func21, Tryz.ntmps21
  go_wp2_with fail
  go_loopw [13] (fun i wr => ∃ k : Nat, k ≤ fs.length ∧ i = .int .i64 k ∧ ∃ m, wr = w.drewN m) (fun i _ => fs.length - (intOf i).toNat)
  case atStart => exact ⟨0, Nat.zero_le _, rfl, 0, rfl⟩
  case round =>
    obtain ⟨k, hk, rfl, nd, hwr⟩ := hrel
    by_cases hlt : k < fs.length
    · obtain ⟨f, hf⟩ : ∃ f, fs[k]? = some f := ⟨_, List.getElem?_eq_getElem hlt⟩
      obtain ⟨b, off, rfl, hbb, c0, c1⟩ := PC.out k f hf
      obtain ⟨b', off', rfl, hbb', c0', c1'⟩ := PC'.out k f hf
      replace c0 : wr.cell? ⟨b, off + k * 2, none⟩ = some (.string (B f.1)) := by rw [hwr]; exact c0
      replace c1 : wr.cell? ⟨b, off + k * 2 + 1, none⟩ = some (.string (B f.2)) := by rw [hwr]; exact c1
      replace c0' : wr.cell? ⟨b', off' + k * 2, none⟩ = some (.string (B f.1)) := by rw [hwr]; exact c0'
      replace c1' : wr.cell? ⟨b', off' + k * 2 + 1, none⟩ = some (.string (B f.2)) := by rw [hwr]; exact c1'
      have HW := Lib.hid hwr
      clear hf PC PC' hwr
      generalize B f.1 = X at *
      generalize B f.2 = Y at *
      go_wp2_with (go_quiet (fail))
      go_roundw
      case rel => exact ⟨k + 1, hlt, by go_num, nd + _, by rw [HW.out]; exact World.drewN_drewN _ _ _⟩
      case measure => simp [intOf]; omega
    · obtain rfl : k = fs.length := by omega
      clear PC PC'
      go_wp2_with fail
      go_ret
      exact ⟨rfl, nd, by first | rfl | exact hwr⟩
theorem fields_same (fs : List (List UInt8 × List UInt8)) (v v' : Value) (w : World) (h : Flds w v fs) (h' : Flds w v' fs) (hn : fs.length ≤ 1000000) :
    Calls Tryz.prog 21 #[v, v'] w fun e w' => e = .returned (.bool true) ∧ Below w.heap.size w w' :=
  (fields_quiet fs v v' w h h' hn).mono fun e w' ⟨a, m, b⟩ => ⟨a, by rw [b]; exact drewN_below (Below.refl _ _) m⟩
end Go.Proofs.YtiebbgbcojgeoaaGreatDoor

namespace Go.Proofs.YtiebbgbcojgeoaaGreatDoor
open Go.RowKit Go.Shelf

theorem Flds.drewN {w : World} {v : Value} {fs : List Fld} (h : Flds w v fs) (n : Nat) : Flds (w.drewN n) v fs := h
set_option maxRecDepth 100000 in
set_option maxHeartbeats 8000000 in
theorem items_quiet (its : List It) (v v' : Value) (w : World) (h : Its w v its) (h' : Its w v' its) (hn : its.length ≤ 1000000) (hf : ∀ it ∈ its, it.fields.length ≤ 1000000) :
    Calls Tryz.prog 60 #[v, v'] w fun e w' => e = .returned (.bool true) ∧ ∃ m, w' = w.drewN m := by
  obtain ⟨A, cap, rfl, hle, hc⟩ := h
  obtain ⟨A', cap', rfl, hle', hc'⟩ := h'
  have PC := Lib.hid hc
  have PC' := Lib.hid hc'
  have HF := Lib.hid hf
  clear hc hc' hf
  go_enter Tryz.func60, Tryz.ntmps60
  go_wp2_with fail
  go_loopw [13] (fun i wr => ∃ k : Nat, k ≤ its.length ∧ i = .int .i64 k ∧ ∃ m, wr = w.drewN m) (fun i _ => its.length - (intOf i).toNat)
  case atStart => exact ⟨0, Nat.zero_le _, rfl, 0, rfl⟩
  case round =>
    obtain ⟨k, hk, rfl, nd, hwr⟩ := hrel
    by_cases hlt : k < its.length
    · obtain ⟨it, hit⟩ : ∃ it, its[k]? = some it := ⟨_, List.getElem?_eq_getElem hlt⟩
      obtain ⟨b, off, fv, rfl, hbb, c0, c1, c2, hfl⟩ := PC.out k it hit
      obtain ⟨b', off', fv', rfl, hbb', c0', c1', c2', hfl'⟩ := PC'.out k it hit
      have hm := HF.out it (List.mem_of_getElem? hit)
      have FQ0 : ∀ n, Calls Tryz.prog 21 #[fv, fv'] (wr.drewN n) fun e w' => e = .returned (.bool true) ∧ ∃ m, w' = (wr.drewN n).drewN m := by
        intro n
        rw [hwr]
        exact fields_quiet it.fields fv fv' ((w.drewN nd).drewN n) ((hfl.drewN nd).drewN n) ((hfl'.drewN nd).drewN n) hm
      have FQ := Lib.hid FQ0
      clear FQ0
      replace c0 : wr.cell? ⟨b, off + k * 3, none⟩ = some (.int .i64 it.kind) := by rw [hwr]; exact c0
      replace c1 : wr.cell? ⟨b, off + k * 3 + 1, none⟩ = some (.string (B it.raw)) := by rw [hwr]; exact c1
      replace c2 : wr.cell? ⟨b, off + k * 3 + 1 + 1, none⟩ = some fv := by rw [hwr]; exact c2
      replace c0' : wr.cell? ⟨b', off' + k * 3, none⟩ = some (.int .i64 it.kind) := by rw [hwr]; exact c0'
      replace c1' : wr.cell? ⟨b', off' + k * 3 + 1, none⟩ = some (.string (B it.raw)) := by rw [hwr]; exact c1'
      replace c2' : wr.cell? ⟨b', off' + k * 3 + 1 + 1, none⟩ = some fv' := by rw [hwr]; exact c2'
      have HW := Lib.hid hwr
      clear hit PC PC' hwr hfl hfl' HF
      generalize B it.raw = X at *
      generalize it.kind = K at *
      go_wp2_with (go_quiet ((go_at_call 21; exact Calls.quiet_of (FQ.out _))))
      go_roundw
      case rel => exact ⟨k + 1, hlt, by go_num, _, by rw [HW.out]; exact World.drewN_drewN _ _ _⟩
      case measure => simp [intOf]; omega
    · obtain rfl : k = its.length := by omega
      clear PC PC'
      go_wp2_with fail
      go_ret
      exact ⟨rfl, nd, by first | rfl | exact hwr⟩
end Go.Proofs.YtiebbgbcojgeoaaGreatDoor

namespace Go.Proofs.YtiebbgbcojgeoaaGreatDoor
open Go.RowKit Go.Shelf

theorem raws_len (its : List It) (h : ∀ it ∈ its, it.raw.length ≤ 100000) : ∀ k, ((its.take k).flatMap It.raw).length ≤ 100000 * k := by
  intro k
  induction k with
  | zero => simp
  | succ k ih =>
    rw [List.take_add_one, List.flatMap_append, List.length_append]
    cases hk : its[k]? with
    | none => simp only [Option.toList_none, List.flatMap_nil, List.length_nil]; omega
    | some it =>
      have := h it (List.mem_of_getElem? hk)
      simp only [Option.toList_some, List.flatMap_cons, List.flatMap_nil, List.append_nil]; omega
theorem raws_snoc (its : List It) (k : Nat) (it : It) (h : its[k]? = some it) : (its.take (k + 1)).flatMap It.raw = (its.take k).flatMap It.raw ++ it.raw := by
  rw [List.take_add_one, h]; simp
set_option maxRecDepth 100000 in
set_option maxHeartbeats 4000000 in
theorem join_any (its : List It) (v : Value) (w : World) (h : Its w v its) (hn : its.length ≤ 100000) (hr : ∀ it ∈ its, it.raw.length ≤ 100000) :
    Calls Tryz.prog 102 #[v] w fun e w' => e = .returned (.string (B (its.flatMap It.raw))) ∧ Below w.heap.size w w' := by
  have B0 := Bld.new w (w.heap.size + 1)
  have IT := Lib.hid h
  obtain ⟨A, cap, rfl, hle, _⟩ := h
  have HL := Lib.hid (raws_len its hr)
  have HR := Lib.hid hr
  clear hr
  go_enter Tryz.func102, Tryz.ntmps102
  go_wp2_with fail
  go_loopw [8] (fun i wr => ∃ k : Nat, k ≤ its.length ∧ i = .int .i64 k ∧ Bld w.heap.size (w.heap.size + 1) ((its.take k).flatMap It.raw) wr ∧ Below w.heap.size w wr) (fun i _ => its.length - (intOf i).toNat)
  case atStart => exact ⟨0, Nat.zero_le _, rfl, B0, (Below.refl _ _).alloc (Nat.le_refl _) _⟩
  case round =>
    obtain ⟨k, hk, rfl, hbl, hb⟩ := hrel
    have hz := hb.size
    have hbs := hbl.lt
    by_cases hlt : k < its.length
    · obtain ⟨it, hit⟩ : ∃ it, its[k]? = some it := ⟨_, List.getElem?_eq_getElem hlt⟩
      obtain ⟨b, off, cap', fa, fc, e, _, hbb, c0, c1, c2, hfl⟩ := (IT.out.below hb (Nat.le_refl _)).at_ hit
      cases e
      have hl1 := HL.out k
      have hl2 := HR.out it (List.mem_of_getElem? hit)
      have SN := Lib.hid (raws_snoc its k it hit)
      have hba := hb.alloc hz (.cells #[.int .i64 it.kind, .string (B it.raw), .slice fa it.fields.length fc] 47)
      have hbla := hbl.alloc (.cells #[.int .i64 it.kind, .string (B it.raw), .slice fa it.fields.length fc] 47)
      have zr := B_size it.raw
      clear hit IT HL HR hbl
      generalize (its.take k).flatMap It.raw = pre at *
      go_wp2_with fail
      refine (writes w.heap.size (w.heap.size + 1) _ (B it.raw) _ hbla (by omega) (by simp; omega) (by omega)).mono ?_
      rintro e w5 ⟨rfl, hbl5, hw5⟩
      rw [B_data] at hbl5
      have hb5 := hba.trans (hw5.below (Nat.le_refl _) (by omega) (by simp; omega))
      clear hbla hw5
      go_wp2_with fail
      go_roundw
      case rel => exact ⟨k + 1, hlt, by go_num, by rw [SN.out]; exact hbl5, hb5⟩
      case measure => simp [intOf]; omega
    · obtain rfl : k = its.length := by omega
      rw [List.take_length] at hbl
      clear IT HL HR
      go_wp2_with fail
      refine (Tryz.Builder_String_any_k w.heap.size w.heap.size _ wr (hbl.library (Nat.le_refl _) (by omega)) (by omega)).mono ?_
      rintro e w5 ⟨rfl, _, b5, _⟩
      go_wp2_with fail
      go_ret
      exact ⟨rfl, hb.trans b5⟩
set_option maxRecDepth 100000 in
set_option maxHeartbeats 4000000 in
theorem refJoin_any (its : List It) (v : Value) (w : World) (h : Its w v its) (hn : its.length ≤ 100000) (hr : ∀ it ∈ its, it.raw.length ≤ 100000) :
    Calls Tryz.prog 131 #[v] w fun e w' => e = .returned (.string (B (its.flatMap It.raw))) ∧ Below w.heap.size w w' := by
  have IT := Lib.hid h
  obtain ⟨A, cap, rfl, hle, _⟩ := h
  have HL := Lib.hid (raws_len its hr)
  have HR := Lib.hid hr
  clear hr
  go_enter Tryz.func131, Tryz.ntmps131
  go_wp2_with fail
  go_loopw [3, 4] (fun s i wr => ∃ k : Nat, k ≤ its.length ∧ i = .int .i64 k ∧ s = .string (B ((its.take k).flatMap It.raw)) ∧ Below w.heap.size w wr) (fun _ i _ => its.length - (intOf i).toNat)
  case atStart => exact ⟨0, Nat.zero_le _, rfl, rfl, Below.refl _ _⟩
  case round =>
    obtain ⟨k, hk, rfl, rfl, hb⟩ := hrel
    by_cases hlt : k < its.length
    · obtain ⟨it, hit⟩ : ∃ it, its[k]? = some it := ⟨_, List.getElem?_eq_getElem hlt⟩
      obtain ⟨b, off, cap', fa, fc, e, _, hbb, c0, c1, c2, hfl⟩ := (IT.out.below hb (Nat.le_refl _)).at_ hit
      cases e
      have hl1 := HL.out k
      have hl2 := HR.out it (List.mem_of_getElem? hit)
      have SN := Lib.hid (raws_snoc its k it hit)
      have zr := B_size it.raw
      have zp := B_size ((its.take k).flatMap It.raw)
      clear hit IT HL HR
      generalize (its.take k).flatMap It.raw = pre at *
      go_wp2_with fail
      go_roundw
      case rel => exact ⟨k + 1, hlt, by go_num, by rw [SN.out, B_append], hb⟩
      case measure => simp [intOf]; omega
    · obtain rfl : k = its.length := by omega
      rw [List.take_length]
      clear IT HL HR
      go_wp2_with fail
      go_ret
      exact ⟨rfl, hb⟩
end Go.Proofs.YtiebbgbcojgeoaaGreatDoor

namespace Go.Proofs.YtiebbgbcojgeoaaGreatDoor
open Go.RowKit Go.Shelf

theorem rcellsF_at {w : World} {ad : Addr} {fs : List Fld} {cap : Nat} (hc : ∀ (i : Nat) (f : List UInt8 × List UInt8), fs[i]? = some f → ∃ b off, some ad = some (⟨b, off, none⟩ : Addr) ∧ b < w.heap.size ∧ w.cell? ⟨b, off + i * 2, none⟩ = some (.string (B f.1)) ∧ w.cell? ⟨b, off + i * 2 + 1, none⟩ = some (.string (B f.2))) (o : Obj) :
    ∀ (j : Nat) u, (cellsF fs)[j]? = some u → (w.alloc o).cell? (ad.add j) = some u := by
  intro j u hu
  have hj : j < (cellsF fs).length := by
    rcases Nat.lt_or_ge j (cellsF fs).length with q | q
    · exact q
    · rw [List.getElem?_eq_none q] at hu; cases hu
  rw [cellsF_len] at hj
  have hi2 : j / 2 < fs.length := by omega
  obtain ⟨f, hf⟩ : ∃ f, fs[j / 2]? = some f := ⟨_, List.getElem?_eq_getElem hi2⟩
  obtain ⟨b, off, e, hbb, c0, c1⟩ := hc _ f hf
  obtain ⟨a1, a2⟩ := cellsF_at fs _ f hf
  cases e
  rw [WideShapes.add_plain, World.cell?_alloc_old _ _ _ (Nat.ne_of_lt hbb)]
  rcases Nat.mod_two_eq_zero_or_one j with h | h
  · have ej : j = j / 2 * 2 := by omega
    rw [← ej] at a1 c0
    rw [c0, ← hu, a1]
  · have ej : j = j / 2 * 2 + 1 := by omega
    rw [Nat.add_assoc, ← ej] at c1
    rw [← ej] at a2
    rw [c1, ← hu, a2]
theorem eqlNil (w : World) : (binOp BinOp.eql 36 (.slice none 0 0) (.slice none 0 0)).run Tryz.prog w = .ok (.bool true) w := by kernel_rfl
theorem eqlSome (ad : Addr) (n c : Nat) (w : World) : (binOp BinOp.eql 36 (.slice (some ad) n c) (.slice none 0 0)).run Tryz.prog w = .ok (.bool false) w := by kernel_rfl
attribute [local go_sem] eqlNil eqlSome
set_option maxRecDepth 100000 in
set_option maxHeartbeats 4000000 in
theorem clone_any (fs : List Fld) (v : Value) (w : World) (hs : Flds w v fs) (hnil : ∀ n c, v = .slice none n c → c = 0) (hn : fs.length ≤ 1000000) :
    Calls Tryz.prog 64 #[v] w fun e w' => ∃ v', e = .returned v' ∧ w'.ownsRow w.heap.size 73 2 v' fs.length (cellsF fs) ∧ Below w.heap.size w w' := by
  obtain ⟨A, cap, rfl, hle, hc⟩ := hs
  obtain ⟨i0, hi, hz0, hz1, hz2⟩ := info_parts infoFld
  cases A with
  | none =>
    have he : fs = [] := by
      cases fs with
      | nil => rfl
      | cons a r => obtain ⟨b, off, e, _⟩ := hc 0 a rfl; cases e
    have hc0 := hnil _ _ rfl
    subst hc0
    subst he
    simp only [List.length_nil]
    go_enter Tryz.func64, Tryz.ntmps64
    go_wp2_with fail
    go_ret
    exact ⟨_, rfl, ⟨rfl, .inl ⟨rfl, rfl⟩⟩, Below.refl _ _⟩
  | some ad =>
    have hoN : (w.alloc (.cells #[] 73)).ownsRow w.heap.size 73 2 (.slice (some ⟨w.heap.size, 0, none⟩) 0 0) 0 [] := World.ownsRow_lit w #[] 0 (Nat.le_refl _) (by decide) rfl
    have hba := (Below.refl w.heap.size w).alloc (Nat.le_refl _) (.cells #[] 73)
    have HC := Lib.hid (rcellsF_at (cap := cap) hc (.cells #[] 73))
    have hone : ∀ u ∈ cellsF fs, u.oneCell' = true := by
      intro u hu
      unfold cellsF at hu
      simp at hu
      obtain ⟨a, b, _, h | h⟩ := hu <;> subst h <;> rfl
    have HL := cellsF_len fs
    clear hc
    generalize cellsF fs = cf at *
    go_enter Tryz.func64, Tryz.ntmps64
    go_wp2_with (at_builtin; refine wpList_append_own _ rfl _ _ 36 rfl w.heap.size 73 i0 _ 2 32 Tryz.underlying36 hi hz0 hz1 hz2 rfl (by decide) _ 0 [] rfl hoN ad fs.length cap cf rfl HL HC.out hone ?c3 ?c4 ?c5 ?_)
    case c3 => unfold maxLen; omega
    case c4 => omega
    case c5 => simp
    intro v' w3 hown' hgrow _
    have hb3 : Below w.heap.size w w3 := hba.grown hgrow (by simp) (fun j ej => (World.ownsRow.lt hoN j ej).1)
    go_wp2_with fail
    go_ret
    exact ⟨_, rfl, hown', hb3⟩
/-- A slice of slices of fields, readable. -/
def Rws (w : World) (v : Value) (rs : List (List Fld)) : Prop :=
  ∃ A cap, v = .slice A rs.length cap ∧ rs.length ≤ cap ∧ ∀ (i : Nat) (r : List Fld), rs[i]? = some r → ∃ b off fv, A = some ⟨b, off, none⟩ ∧ b < w.heap.size ∧ w.cell? ⟨b, off + i, none⟩ = some fv ∧ Flds w fv r
theorem Rws.below {w w' : World} {v : Value} {rs : List (List Fld)} {n : Nat} (h : Rws w v rs) (hb : Below n w w') (hn : w.heap.size ≤ n) : Rws w' v rs := by
  obtain ⟨A, cap, hv, hle, hc⟩ := h
  refine ⟨A, cap, hv, hle, fun i r hi => ?_⟩
  obtain ⟨b, off, fv, hA, hlt, c0, hf⟩ := hc i r hi
  exact ⟨b, off, fv, hA, Nat.lt_of_lt_of_le hlt hb.size, (hb.cell (p := ⟨b, off + i, none⟩) (Nat.lt_of_lt_of_le hlt hn)).trans c0, hf.below hb hn⟩
/-- The accumulated rows: by definition (its rows are the items' own), by the program (its rows are new). -/
structure AccR (w wr : World) (v : Value) (vs : List Value) (rs : List (List Fld)) : Prop where
  row : wr.ownsRow w.heap.size 36 1 v vs.length vs
  len : vs.length = rs.length
  each : ∀ (j : Nat) x r, vs[j]? = some x → rs[j]? = some r → Flds w x r
  below : Below w.heap.size w wr
structure AccP (w wr : World) (v : Value) (vs : List Value) (rs : List (List Fld)) : Prop where
  row : wr.ownsRow w.heap.size 36 1 v vs.length vs
  len : vs.length = rs.length
  each : ∀ (j : Nat) x r, vs[j]? = some x → rs[j]? = some r → wr.ownsRow w.heap.size 73 2 x r.length (cellsF r)
  below : Below w.heap.size w wr
theorem snoc_at {α : Type} {l : List α} {a x : α} {j : Nat} (h : (l ++ [a])[j]? = some x) : (j < l.length ∧ l[j]? = some x) ∨ (j = l.length ∧ x = a) := by
  rcases Nat.lt_or_ge j l.length with q | q
  · rw [List.getElem?_append_left q] at h; exact .inl ⟨q, h⟩
  · rw [List.getElem?_append_right q] at h
    have hz : j - l.length = 0 := by
      rcases Nat.eq_zero_or_pos (j - l.length) with z | z
      · exact z
      · rw [List.getElem?_eq_none (by simp; omega)] at h; cases h
    rw [hz] at h
    cases h
    exact .inr ⟨by omega, rfl⟩
theorem AccR.start (w : World) : AccR w w (.slice none 0 0) [] [] := ⟨⟨rfl, .inl ⟨rfl, rfl⟩⟩, rfl, fun j x r h => by simp at h, Below.refl _ _⟩
theorem AccP.start (w : World) : AccP w w (.slice none 0 0) [] [] := ⟨⟨rfl, .inl ⟨rfl, rfl⟩⟩, rfl, fun j x r h => by simp at h, Below.refl _ _⟩
theorem AccP.kept {w wr w2 : World} {v : Value} {vs : List Value} {rs : List (List Fld)} (h : AccP w wr v vs rs) (hb : Below wr.heap.size wr w2) : AccP w w2 v vs rs :=
  ⟨own_kept h.row hb (Nat.le_refl _), h.len, fun j x r h1 h2 => own_kept (h.each j x r h1 h2) hb (Nat.le_refl _), h.below.trans (hb.mono h.below.size)⟩
theorem AccR.kept {w wr w2 : World} {v : Value} {vs : List Value} {rs : List (List Fld)} (h : AccR w wr v vs rs) (hb : Below wr.heap.size wr w2) : AccR w w2 v vs rs :=
  ⟨own_kept h.row hb (Nat.le_refl _), h.len, h.each, h.below.trans (hb.mono h.below.size)⟩
theorem AccR.snoc {w W W1 w3 : World} {v v' x : Value} {vs : List Value} {rs : List (List Fld)} {r : List Fld} (h : AccR w W v vs rs) (hx : Flds w x r) (h1 : Below W.heap.size W W1) (ho : w3.ownsRow w.heap.size 36 1 v' (vs.length + 1) (vs ++ [x])) (hg : W1.grownBy w3 v.ownBlock) : AccR w w3 v' (vs ++ [x]) (rs ++ [r]) := by
  refine ⟨by rw [List.length_append]; exact ho, by simp [h.len], fun j y s hy hs => ?_, (h.below.trans (h1.mono h.below.size)).grown hg (Nat.le_trans h.below.size h1.size) (fun k e => (h.row.lt k e).1)⟩
  rcases snoc_at hy with ⟨q, hy⟩ | ⟨q, rfl⟩
  · rw [List.getElem?_append_left (by rw [← h.len]; exact q)] at hs
    exact h.each j y s hy hs
  · rw [q, h.len, List.getElem?_append_right (Nat.le_refl _)] at hs
    simp at hs
    subst hs; exact hx
theorem row73 {W w3 : World} {lo : Nat} {v x : Value} {n m : Nat} {xs ys : List Value} (hv : W.ownsRow lo 36 1 v n xs) (hx : W.ownsRow lo 73 2 x m ys) (hg : W.grownBy w3 v.ownBlock) : w3.ownsRow lo 73 2 x m ys := by
  refine row_same hx fun b hb => hg.block b (hx.lt b hb).2 (fun e => ?_)
  rcases hx.2 with ⟨rfl, _⟩ | ⟨g, cap, cur, rfl, _, hc, _⟩
  · cases hb
  · cases hb
    rcases hv.2 with ⟨rfl, _⟩ | ⟨g', cap', cur', rfl, _, hc', _⟩
    · cases e
    · have : g = g' := Option.some.inj e
      subst this
      rw [hc] at hc'
      injection hc' with hc'
      injection hc' with _ h2 _
      exact absurd h2 (by decide)
theorem AccP.snoc {w W w3 : World} {v v' x : Value} {vs : List Value} {rs : List (List Fld)} {r : List Fld} (h : AccP w W v vs rs) (hx : W.ownsRow w.heap.size 73 2 x r.length (cellsF r)) (ho : w3.ownsRow w.heap.size 36 1 v' (vs.length + 1) (vs ++ [x])) (hg : (W.alloc (.cells #[x] 36)).grownBy w3 v.ownBlock) : AccP w w3 v' (vs ++ [x]) (rs ++ [r]) := by
  have h' := h.kept ((Below.refl W.heap.size W).alloc (Nat.le_refl _) (.cells #[x] 36))
  have hx' := own_kept hx ((Below.refl W.heap.size W).alloc (Nat.le_refl _) (.cells #[x] 36)) (Nat.le_refl _)
  refine ⟨by rw [List.length_append]; exact ho, by simp [h.len], fun j y s hy hs => ?_, h'.below.grown hg h'.below.size (fun k e => (h.row.lt k e).1)⟩
  rcases snoc_at hy with ⟨q, hy⟩ | ⟨q, rfl⟩
  · rw [List.getElem?_append_left (by rw [← h.len]; exact q)] at hs
    exact row73 h'.row (h'.each j y s hy hs) hg
  · rw [q, h.len, List.getElem?_append_right (Nat.le_refl _)] at hs
    simp at hs
    subst hs; exact row73 h'.row hx' hg
theorem valCell (W : World) (x : Value) (t : TypeId) : ∀ (j : Nat) u, [x][j]? = some u → (W.alloc (.cells #[x] t)).cell? ((⟨W.heap.size, 0, none⟩ : Addr).add j) = some u := cells_new_add W t [x]
end Go.Proofs.YtiebbgbcojgeoaaGreatDoor

namespace Go.Proofs.YtiebbgbcojgeoaaGreatDoor
open Go.RowKit Go.Shelf

/-- A slice of fields that may be written over. -/
def Mine (w : World) (lo : Nat) (v : Value) (n : Nat) : Prop :=
  n = 0 ∧ (∃ A c, v = .slice A 0 c) ∨ ∃ g cap cur, v = .slice (some ⟨g, 0, none⟩) n cap ∧ n ≤ cap ∧ lo ≤ g ∧ w.heap[g]? = some (.cells cur 73 (0, 0)) ∧ n * 2 ≤ cur.size
/-- Fields from lo on may have turned. -/
structure Spoilt (lo : Nat) (w w' : World) : Prop where
  os : w'.os = w.os
  tape : w'.tape = w.tape
  output : w'.output = w.output
  size : w'.heap.size = w.heap.size
  same : ∀ (r : Nat) o, w.heap[r]? = some o → w'.heap[r]? = some o ∨ (lo ≤ r ∧ ∃ cur cur', o = .cells cur 73 (0, 0) ∧ w'.heap[r]? = some (.cells cur' 73 (0, 0)) ∧ cur'.size = cur.size)
theorem Spoilt.refl (lo : Nat) (w : World) : Spoilt lo w w := ⟨rfl, rfl, rfl, rfl, fun _ _ h => .inl h⟩
theorem Spoilt.trans {lo : Nat} {a b c : World} (h : Spoilt lo a b) (g : Spoilt lo b c) : Spoilt lo a c := by
  refine ⟨g.os.trans h.os, g.tape.trans h.tape, g.output.trans h.output, g.size.trans h.size, fun r o ho => ?_⟩
  rcases h.same r o ho with h1 | ⟨h1, cur, cur', rfl, h2, h3⟩
  · exact g.same r o h1
  · rcases g.same r _ h2 with g1 | ⟨_, c1, c2, g1, g2, g3⟩
    · exact .inr ⟨h1, cur, cur', rfl, g1, h3⟩
    · injection g1 with g1
      subst g1
      exact .inr ⟨h1, cur, c2, rfl, g2, g3.trans h3⟩
theorem Spoilt.set {lo g : Nat} {w : World} {cur : Array Value} (h : w.heap[g]? = some (.cells cur 73 (0, 0))) (hg : lo ≤ g) (i : Nat) (u : Value) : Spoilt lo w (w.setCell ⟨g, i, none⟩ u) := by
  refine ⟨rfl, rfl, rfl, by simp [World.setCell], fun r o ho => ?_⟩
  by_cases e : r = g
  · subst e
    rw [h] at ho
    cases ho
    exact .inr ⟨hg, cur, cur.setIfInBounds i u, rfl, Cells.set (t := 73) h i u, by simp⟩
  · exact .inl ((Below.heap_setCell _ _ _ _ e).trans ho)
theorem Spoilt.below {lo : Nat} {w w' : World} (h : Spoilt lo w w') (hl : lo ≤ w.heap.size) : Below lo w w' := by
  refine ⟨h.os, h.tape, h.output, Nat.le_of_eq h.size.symm, fun r hr => ?_⟩
  rcases h.same r _ (Array.getElem?_eq_getElem (by omega)) with e | ⟨e, _⟩
  · rw [e]; exact (Array.getElem?_eq_getElem (by omega)).symm
  · omega
theorem Mine.spoilt {lo n : Nat} {w w' : World} {v : Value} (h : Mine w lo v n) (hs : Spoilt lo w w') : Mine w' lo v n := by
  rcases h with h | ⟨g, cap, cur, e, h0, h1, h2, h3⟩
  · exact .inl h
  · rcases hs.same g _ h2 with k | ⟨_, c1, c2, k1, k2, k3⟩
    · exact .inr ⟨g, cap, cur, e, h0, h1, k, h3⟩
    · injection k1 with k1
      subst k1
      exact .inr ⟨g, cap, c2, e, h0, h1, k2, by omega⟩
theorem mine_of_own {lo n : Nat} {w : World} {v : Value} {xs : List Value} (h : w.ownsRow lo 73 2 v n xs) : Mine w lo v n := by
  rcases h.2 with ⟨rfl, hn⟩ | ⟨g, cap, cur, rfl, hb, hc, hle, _, hs, _⟩
  · exact .inl ⟨hn, none, 0, rfl⟩
  · exact .inr ⟨g, cap, cur, rfl, hle, hb, hc, by rw [hs]; exact Nat.mul_le_mul_right 2 hle⟩
set_option maxRecDepth 100000 in
set_option maxHeartbeats 4000000 in
theorem spoil_any (n lo : Nat) (v : Value) (w : World) (h : Mine w lo v n) (hn : n ≤ 1000000) :
    Calls Tryz.prog 57 #[v] w fun e w' => e = .returned (.tuple #[]) ∧ Spoilt lo w w' := by
  have HM := Lib.hid h
  rcases h with ⟨rfl, A, c, rfl⟩ | ⟨g, cap, cur, rfl, hle, _, _, _⟩
  · go_enter Tryz.func57, Tryz.ntmps57
    go_wp2_with fail
    refine wp_loop_rounds 1 ?_
    rw [rounds_succ]
    go_wp2_with fail
    go_end0
    exact ⟨rfl, Spoilt.refl _ _⟩
  · go_enter Tryz.func57, Tryz.ntmps57
    go_wp2_with fail
    go_loopw [5] (fun i wr => ∃ k : Nat, k ≤ n ∧ i = .int .i64 k ∧ Spoilt lo w wr) (fun i _ => n - (intOf i).toNat)
    case atStart => exact ⟨0, Nat.zero_le _, rfl, Spoilt.refl _ _⟩
    case round =>
      obtain ⟨k, hk, rfl, hs⟩ := hrel
      by_cases hlt : k < n
      · rcases HM.out.spoilt hs with ⟨h0, _⟩ | ⟨g', cap', cur', e, h0, h1, h2, h3⟩
        · omega
        · cases e
          have hC : Cells wr g 73 cur' := h2
          obtain ⟨x0, hx0⟩ : ∃ x, cur'[k * 2]? = some x := ⟨_, Array.getElem?_eq_getElem (by omega)⟩
          obtain ⟨x1, hx1⟩ : ∃ x, cur'[k * 2 + 1]? = some x := ⟨_, Array.getElem?_eq_getElem (by omega)⟩
          have c0 : wr.cell? ⟨g, k * 2, none⟩ = some x0 := (hC.cell _).trans hx0
          have c1 : wr.cell? ⟨g, k * 2 + 1, none⟩ = some x1 := (hC.cell _).trans hx1
          have f0 := hC.frozen (k * 2)
          have f1 := hC.frozen (k * 2 + 1)
          have HC := Lib.hid hC
          have HS := Lib.hid hs
          clear HM hs h2 hC hx0 hx1
          go_wp2_with fail
          go_roundw
          case rel =>
            refine ⟨k + 1, hlt, by go_num, HS.out.trans ((Spoilt.set HC.out h1 (k * 2) _).trans (Spoilt.set (HC.out.set (k * 2) _) h1 (k * 2 + 1) _))⟩
          case measure => simp [intOf]; omega
      · obtain rfl : k = n := by omega
        clear HM
        go_wp2_with fail
        go_end0
        exact ⟨rfl, hs⟩
end Go.Proofs.YtiebbgbcojgeoaaGreatDoor

namespace Go.Proofs.YtiebbgbcojgeoaaGreatDoor
open Go.RowKit Go.Shelf Go.Maps Go.ChangeShapes Go.Joins Go.WideShapes

theorem cells2 {cs : List Value} (h : cs.length = 2) : ∃ c0 c1, cs = [c0, c1] := by
  match cs, h with
  | [c0, c1], _ => exact ⟨_, _, rfl⟩

set_option maxRecDepth 100000 in
theorem fld_in {H : Type} {enc : TypeId × Value → H} {W : World} {base : Nat} {sp : Nat → Bool} {held : Bool} {fuel : Nat} {cs : List Value} {x : DataW H × List MemPlace} (h : DataW.trod enc Tryz.prog W base sp held fuel 73 cs = some x) :
    ∃ f : List UInt8 × List UInt8, cs = [.string (B f.1), .string (B f.2)] ∧ f.1.length ≤ maxLen ∧ f.2.length ≤ maxLen := by
  obtain ⟨xs, m, _, _, hl, hxl, hf⟩ := DataW.trod_struct Tryz.underlying73 h
  have hl2 : cs.length = 2 := hl.trans (by kernel_rfl)
  obtain ⟨c0, c1, rfl⟩ := cells2 hl2
  have k9 : Tryz.prog.cellsOf 9 = 1 := by kernel_rfl
  have hx : ∀ i, i < 2 → ∃ y, xs[i]? = some y := fun i hi => ⟨_, List.getElem?_eq_getElem (by rw [hxl]; exact hi)⟩
  obtain ⟨y0, e0⟩ := hx 0 (by decide)
  obtain ⟨y1, e1⟩ := hx 1 (by decide)
  have q0 : DataW.trod enc Tryz.prog W base sp held m 9 (List.take (Tryz.prog.cellsOf 9) [c0, c1]) = _ := hf 0 _ rfl
  have q1 : DataW.trod enc Tryz.prog W base sp held m 9 (List.take (Tryz.prog.cellsOf 9) [c1]) = _ := hf 1 _ rfl
  rw [k9, e0] at q0
  rw [k9, e1] at q1
  obtain ⟨s, f0, _, w0⟩ := DataW.trod_string Tryz.underlying9 q0
  obtain ⟨t, f1, _, w1⟩ := DataW.trod_string Tryz.underlying9 q1
  simp at f0 f1
  subst f0 f1
  exact ⟨(s.data.toList, t.data.toList), by rw [B_of, B_of], by rw [← Lib.size_eq]; exact w0, by rw [← Lib.size_eq]; exact w1⟩
set_option maxRecDepth 100000 in
theorem flds_in {H : Type} {enc : TypeId × Value → H} {W : World} {base : Nat} {sp : Nat → Bool} {held : Bool} {fuel : Nat} {v : Value} {x : DataW H × List MemPlace} (h : DataW.trod enc Tryz.prog W base sp held fuel 36 [v] = some x) :
    ∃ fs, FldsIn W v fs := by
  rcases DataW.trod_slice Tryz.underlying36 h with ⟨e, _⟩ | ⟨a, len, cap, elems, rest, n, _, e, _, _, hl, hm, hlen, hel, _, _⟩
  · obtain rfl : v = .slice none 0 0 := by simpa using e
    exact ⟨[], ⟨⟨none, 0, rfl, Nat.le_refl _, fun i f h => by simp at h⟩, fun n c h => by cases h; rfl, Nat.zero_le _, fun f hf => by cases hf⟩⟩
  · obtain rfl : v = .slice (some a) len cap := by simpa using e
    have k2 : Tryz.prog.cellsOf 73 = 2 := by kernel_rfl
    have each : ∀ i, i < len → ∃ f : List UInt8 × List UInt8, (∃ b off, a = ⟨b, off, none⟩ ∧ b < W.heap.size ∧ W.cell? ⟨b, off + i * 2, none⟩ = some (.string (B f.1)) ∧ W.cell? ⟨b, off + i * 2 + 1, none⟩ = some (.string (B f.2))) ∧ f.1.length ≤ maxLen ∧ f.2.length ≤ maxLen := by
      intro i hi
      have h1 := hel i hi
      rw [k2, List.getElem?_eq_getElem (by omega)] at h1
      obtain ⟨cs, hc, ht⟩ := Option.bind_eq_some_iff.1 h1
      obtain ⟨f, rfl, hf1, hf2⟩ := fld_in ht
      obtain ⟨_, _, hat⟩ := World.cells?_some hc
      have c0 := hat 0 (by decide)
      have c1 := hat 1 (by decide)
      obtain ⟨b, off, spot⟩ := a
      have hspot : spot = none := by
        have h2 := hel 0 (by omega)
        rw [k2, List.getElem?_eq_getElem (by omega)] at h2
        obtain ⟨cs', hc', ht'⟩ := Option.bind_eq_some_iff.1 h2
        obtain ⟨f', rfl, _⟩ := fld_in ht'
        obtain ⟨_, hlen', hat'⟩ := World.cells?_some hc'
        have := World.cell?_spot (hat' 0 (by decide))
        simpa [Addr.add] using this
      subst hspot
      rw [WideShapes.add_plain] at c0 c1
      exact ⟨f, ⟨b, off, rfl, World.block_lt_of_cell? W _ c0, c0, c1⟩, hf1, hf2⟩
    have : ∃ g : Nat → List UInt8 × List UInt8, ∀ i, i < len → (∃ b off, a = ⟨b, off, none⟩ ∧ b < W.heap.size ∧ W.cell? ⟨b, off + i * 2, none⟩ = some (.string (B (g i).1)) ∧ W.cell? ⟨b, off + i * 2 + 1, none⟩ = some (.string (B (g i).2))) ∧ (g i).1.length ≤ maxLen ∧ (g i).2.length ≤ maxLen := by
      refine ⟨fun i => if h : i < len then (each i h).choose else ([], []), fun i hi => ?_⟩
      simp only [dif_pos hi]
      exact (each i hi).choose_spec
    obtain ⟨g, hg⟩ := this
    have hll : ((List.range len).map g).length = len := by simp
    refine ⟨(List.range len).map g, ⟨⟨some a, cap, by rw [hll], by rw [hll]; exact hl, fun i f hf => ?_⟩, (fun n c h => by cases h), by rw [hll]; omega, fun f hf => ?_⟩⟩
    · have hi : i < len := by
        rcases Nat.lt_or_ge i len with q | q
        · exact q
        · rw [List.getElem?_eq_none (by rw [hll]; exact q)] at hf; cases hf
      have e : f = g i := by
        rw [List.getElem?_map, List.getElem?_range hi] at hf
        exact (Option.some.inj hf).symm
      subst e
      obtain ⟨b, off, ea, hb, c0, c1⟩ := (hg i hi).1
      exact ⟨b, off, by rw [ea], hb, c0, c1⟩
    · obtain ⟨i, hi, rfl⟩ := List.mem_map.1 hf
      exact (hg i (List.mem_range.1 hi)).2
end Go.Proofs.YtiebbgbcojgeoaaGreatDoor

namespace Go.Proofs.YtiebbgbcojgeoaaGreatDoor
open Go.RowKit Go.Shelf Go.Maps Go.ChangeShapes Go.Joins Go.WideShapes

theorem cells3 {cs : List Value} (h : cs.length = 3) : ∃ c0 c1 c2, cs = [c0, c1, c2] := by
  match cs, h with
  | [c0, c1, c2], _ => exact ⟨_, _, _, rfl⟩
/-- A slice of items that came in. -/
structure ItsIn (w : World) (v : Value) (its : List It) : Prop where
  is_ : Its w v its
  len : its.length ≤ maxLen
  raw : ∀ it ∈ its, it.raw.length ≤ maxLen
  each : ∀ (i : Nat) (it : It), its[i]? = some it → ∃ b off n cap fv, v = .slice (some ⟨b, off, none⟩) n cap ∧ w.cell? ⟨b, off + i * 3 + 1 + 1, none⟩ = some fv ∧ FldsIn w fv it.fields
theorem its_of_own {w : World} {base : Nat} {v : Value} {its : List It} {fvs : List Value} (h : w.ownsRow base 47 3 v its.length (itemsCells its fvs)) (hl : fvs.length = its.length) (he : ∀ (j : Nat) it x, its[j]? = some it → fvs[j]? = some x → Flds w x it.fields) : Its w v its := by
  rcases Joins.ownsRow_forms h with ⟨e, hn⟩ | ⟨g, cap, e⟩
  · have : its = [] := List.length_eq_zero_iff.1 hn
    rw [e, this]
    exact ⟨none, 0, rfl, Nat.le_refl _, fun i it hi => by simp at hi⟩
  · refine ⟨some ⟨g, 0, none⟩, cap, e, (by rcases h.2 with ⟨q, _⟩ | ⟨g', cap', cur, q, _, _, q2, _⟩; · rw [e] at q; cases q
                                           · rw [e] at q; cases q; exact q2), fun i it hi => ?_⟩
    have hlt : i < its.length := by
      rcases Nat.lt_or_ge i its.length with q | q
      · exact q
      · rw [List.getElem?_eq_none q] at hi; cases hi
    obtain ⟨fv, hfv⟩ : ∃ fv, fvs[i]? = some fv := ⟨_, List.getElem?_eq_getElem (by rw [hl]; exact hlt)⟩
    obtain ⟨a0, a1, a2⟩ := itemsCells_at _ _ i it fv hi hfv
    rw [e] at h
    refine ⟨g, 0, fv, rfl, (World.ownsRow.lt h g rfl).2, ?_, ?_, ?_, he i it fv hi hfv⟩
    · rw [Nat.zero_add, World.ownsRow.cellAt h (i * 3) (by omega)]; exact a0
    · rw [Nat.zero_add, World.ownsRow.cellAt h (i * 3 + 1) (by omega)]; exact a1
    · rw [Nat.zero_add, World.ownsRow.cellAt h (i * 3 + 1 + 1) (by omega)]; exact a2
set_option maxRecDepth 100000 in
set_option maxHeartbeats 4000000 in
theorem copies_own (fs : List Fld) (v : Value) (w : World) (hs : Flds w v fs) (hnil : ∀ n c, v = .slice none n c → c = 0) (hn : fs.length ≤ 1000000) :
    Calls Tryz.prog 53 #[v] w fun e w' => ∃ v', e = .returned v' ∧ w'.ownsRow w.heap.size 73 2 v' fs.length (cellsF fs) ∧ Below w.heap.size w w' := by
  obtain ⟨A, cap, rfl, hle, hc⟩ := hs
  obtain ⟨i0, hi, hz0, hz1, hz2⟩ := info_parts infoFld
  have hoN : (w.alloc (.cells #[] 73)).ownsRow w.heap.size 73 2 (.slice (some ⟨w.heap.size, 0, none⟩) 0 0) 0 [] := World.ownsRow_lit w #[] 0 (Nat.le_refl _) (by decide) rfl
  have hba := (Below.refl w.heap.size w).alloc (Nat.le_refl _) (.cells #[] 73)
  cases A with
  | none =>
    have he : fs = [] := by
      cases fs with
      | nil => rfl
      | cons a r => obtain ⟨b, off, e, _⟩ := hc 0 a rfl; cases e
    have hc0 := hnil _ _ rfl
    subst hc0
    subst he
    simp only [List.length_nil]
    go_enter Tryz.func53, Tryz.ntmps53
    go_wp2_with (at_builtin; refine wpList_append_own_none rfl _ _ 36 rfl w.heap.size 73 i0 2 Tryz.underlying36 hi _ 0 [] rfl hoN rfl ?_)
    go_ret
    exact ⟨_, rfl, hoN, hba⟩
  | some ad =>
    have HC := Lib.hid (rcellsF_at (cap := cap) hc (.cells #[] 73))
    have hone : ∀ u ∈ cellsF fs, u.oneCell' = true := by
      intro u hu
      unfold cellsF at hu
      simp at hu
      obtain ⟨a, b, _, h | h⟩ := hu <;> subst h <;> rfl
    have HL := cellsF_len fs
    clear hc
    generalize cellsF fs = cf at *
    go_enter Tryz.func53, Tryz.ntmps53
    go_wp2_with (at_builtin; refine wpList_append_own _ rfl _ _ 36 rfl w.heap.size 73 i0 _ 2 32 Tryz.underlying36 hi hz0 hz1 hz2 rfl (by decide) _ 0 [] rfl hoN ad fs.length cap cf rfl HL HC.out hone ?c3 ?c4 ?c5 ?_)
    case c3 => unfold maxLen; omega
    case c4 => omega
    case c5 => simp
    intro v' w3 hown' hgrow _
    have hb3 : Below w.heap.size w w3 := hba.grown hgrow (by simp) (fun j ej => (World.ownsRow.lt hoN j ej).1)
    go_wp2_with fail
    go_ret
    exact ⟨_, rfl, hown', hb3⟩
/-- The copies so far. -/
structure AccM (w wr : World) (v : Value) (fvs : List Value) (its : List It) : Prop where
  row : wr.ownsRow w.heap.size 47 3 v its.length (itemsCells its fvs)
  len : fvs.length = its.length
  each : ∀ (j : Nat) it x, its[j]? = some it → fvs[j]? = some x → wr.ownsRow w.heap.size 73 2 x it.fields.length (cellsF it.fields)
  below : Below w.heap.size w wr
theorem AccM.its {w wr : World} {v : Value} {fvs : List Value} {its : List It} (h : AccM w wr v fvs its) : Its wr v its :=
  its_of_own h.row h.len fun j it x h1 h2 => flds_of_own (h.each j it x h1 h2)
theorem AccM.nil {w wr : World} {v : Value} {fvs : List Value} {its : List It} (h : AccM w wr v fvs its) : NilI wr v its := by
  intro i b off n cap m c e hlt hcell
  obtain ⟨it, hi⟩ : ∃ it, its[i]? = some it := ⟨_, List.getElem?_eq_getElem hlt⟩
  obtain ⟨fv, hfv⟩ : ∃ fv, fvs[i]? = some fv := ⟨_, List.getElem?_eq_getElem (by rw [h.len]; exact hlt)⟩
  obtain ⟨_, _, a2⟩ := itemsCells_at _ _ i it fv hi hfv
  have hr := h.row
  rcases Joins.ownsRow_forms hr with ⟨e', hn⟩ | ⟨g, cap', e'⟩
  · omega
  · rw [e'] at e hr
    cases e
    rw [Nat.zero_add, World.ownsRow.cellAt hr (i * 3 + 1 + 1) (by omega), a2] at hcell
    cases hcell
    rcases (h.each i it _ hi hfv).2 with ⟨q, _⟩ | ⟨g', cap', cur, q, _⟩
    · cases q; rfl
    · cases q
theorem AccM.kept {w wr w2 : World} {v : Value} {fvs : List Value} {its : List It} (h : AccM w wr v fvs its) (hb : Below wr.heap.size wr w2) : AccM w w2 v fvs its :=
  ⟨own_kept h.row hb (Nat.le_refl _), h.len, fun j it x h1 h2 => own_kept (h.each j it x h1 h2) hb (Nat.le_refl _), h.below.trans (hb.mono h.below.size)⟩
theorem row42 {W w3 : World} {lo : Nat} {v x : Value} {n m : Nat} {xs ys : List Value} (hv : W.ownsRow lo 47 3 v n xs) (hx : W.ownsRow lo 73 2 x m ys) (hg : W.grownBy w3 v.ownBlock) : w3.ownsRow lo 73 2 x m ys := by
  refine row_same hx fun b hb => hg.block b (hx.lt b hb).2 (fun e => ?_)
  rcases hx.2 with ⟨rfl, _⟩ | ⟨g, cap, cur, rfl, _, hc, _⟩
  · cases hb
  · cases hb
    rcases hv.2 with ⟨rfl, _⟩ | ⟨g', cap', cur', rfl, _, hc', _⟩
    · cases e
    · have : g = g' := Option.some.inj e
      subst this
      rw [hc] at hc'
      injection hc' with hc'
      injection hc' with _ h2 _
      exact absurd h2 (by decide)
theorem AccM.snoc {w W w3 : World} {v v' x : Value} {fvs : List Value} {its : List It} {it : It} (h : AccM w W v fvs its) (hx : W.ownsRow w.heap.size 73 2 x it.fields.length (cellsF it.fields)) (ho : w3.ownsRow w.heap.size 47 3 v' (its.length + 1) (itemsCells its fvs ++ [.int .i64 it.kind, .string (B it.raw), x])) (o : Obj) (hg : (W.alloc o).grownBy w3 v.ownBlock) : AccM w w3 v' (fvs ++ [x]) (its ++ [it]) := by
  have h' := h.kept ((Below.refl W.heap.size W).alloc (Nat.le_refl _) o)
  have hx' := own_kept hx ((Below.refl W.heap.size W).alloc (Nat.le_refl _) o) (Nat.le_refl _)
  refine ⟨by rw [List.length_append, itemsCells_snoc _ _ _ _ h.len]; exact ho, by simp [h.len], fun j y s hy hs => ?_, h'.below.grown hg h'.below.size (fun k e => (h.row.lt k e).1)⟩
  rcases snoc_at hy with ⟨q, hy⟩ | ⟨q, rfl⟩
  · rw [List.getElem?_append_left (by rw [h.len]; exact q)] at hs
    exact row42 h'.row (h'.each j y s hy hs) hg
  · rw [q, ← h.len, List.getElem?_append_right (Nat.le_refl _)] at hs
    simp at hs
    subst hs; exact row42 h'.row hx' hg
end Go.Proofs.YtiebbgbcojgeoaaGreatDoor

namespace Go.Proofs.YtiebbgbcojgeoaaGreatDoor
open Go.RowKit Go.Shelf

theorem apart_snoc (its : List It) (k : Nat) (it : It) (h : its[k]? = some it) : apartL (its.take (k + 1)) = (apartL (its.take k) ++ if lastF false (its.take k) = true ∧ it.kind ≠ 1 then [⟨1, [10], []⟩] else []) ++ [it] := by
  have e : its.take (k + 1) = its.take k ++ [it] := by rw [List.take_add_one, h]; rfl
  unfold apartL
  rw [e, apartOn_append, List.append_assoc]
  congr 1
theorem lastF_snoc (b : Bool) (l : List It) (x : It) : lastF b (l ++ [x]) = (x.kind != 1) := by rw [lastF_append]; rfl
theorem lastF_at (its : List It) (k : Nat) (it : It) (h : its[k]? = some it) : lastF false (its.take (k + 1)) = (it.kind != 1) := by
  have e : its.take (k + 1) = its.take k ++ [it] := by rw [List.take_add_one, h]; rfl
  rw [e, lastF_snoc]
theorem apartOn_len : ∀ (b : Bool) (l : List It), (apartOn b l).length ≤ 2 * l.length
  | b, [] => by simp [apartOn]
  | b, x :: r => by
    have ih := apartOn_len (x.kind != 1) r
    show ((if _ then _ else _) ++ x :: apartOn _ r).length ≤ _
    rw [List.length_append, List.length_cons, List.length_cons]
    split
    · simp only [List.length_singleton]; omega
    · simp only [List.length_nil]; omega
theorem apart_len (its : List It) : (apartL its).length ≤ 2 * its.length := apartOn_len _ _
theorem apartOn_mem : ∀ (b : Bool) (l : List It), ∀ x ∈ apartOn b l, x ∈ l ∨ x = ⟨1, [10], []⟩
  | b, [], x, h => by simp [apartOn] at h
  | b, y :: r, x, h => by
    have h' : x ∈ (if b = true ∧ y.kind ≠ 1 then [(⟨1, [10], []⟩ : It)] else []) ++ y :: apartOn (y.kind != 1) r := h
    rcases List.mem_append.1 h' with h' | h'
    · split at h'
      · exact .inr (List.mem_singleton.1 h')
      · cases h'
    · rcases List.mem_cons.1 h' with rfl | h'
      · exact .inl List.mem_cons_self
      · rcases apartOn_mem _ r x h' with q | q
        · exact .inl (List.mem_cons_of_mem _ q)
        · exact .inr q
theorem apart_mem {its : List It} {x : It} (h : x ∈ apartL its) : x ∈ its ∨ x = ⟨1, [10], []⟩ := apartOn_mem _ _ _ h
/-- The items so far, of which each one's fields lie where they lay. -/
structure AccI (w wr : World) (v : Value) (fvs : List Value) (its : List It) : Prop where
  row : wr.ownsRow w.heap.size 47 3 v its.length (itemsCells its fvs)
  len : fvs.length = its.length
  each : ∀ (j : Nat) it x, its[j]? = some it → fvs[j]? = some x → Flds w x it.fields
  below : Below w.heap.size w wr
theorem AccI.start (w : World) : AccI w w (.slice none 0 0) [] [] := ⟨⟨rfl, .inl ⟨rfl, rfl⟩⟩, rfl, fun j it x h => by simp at h, Below.refl _ _⟩
theorem AccM.start (w : World) : AccM w w (.slice none 0 0) [] [] := ⟨⟨rfl, .inl ⟨rfl, rfl⟩⟩, rfl, fun j it x h => by simp at h, Below.refl _ _⟩
theorem AccI.its {w wr : World} {v : Value} {fvs : List Value} {its : List It} (h : AccI w wr v fvs its) : Its wr v its :=
  its_of_own h.row h.len fun j it x h1 h2 => (h.each j it x h1 h2).below h.below (Nat.le_refl _)
theorem AccI.kept {w wr w2 : World} {v : Value} {fvs : List Value} {its : List It} (h : AccI w wr v fvs its) (hb : Below wr.heap.size wr w2) : AccI w w2 v fvs its :=
  ⟨own_kept h.row hb (Nat.le_refl _), h.len, h.each, h.below.trans (hb.mono h.below.size)⟩
theorem AccI.snoc {w W w3 : World} {v v' x : Value} {fvs : List Value} {its : List It} {it : It} (h : AccI w W v fvs its) (hx : Flds w x it.fields) (ho : w3.ownsRow w.heap.size 47 3 v' (its.length + 1) (itemsCells its fvs ++ [.int .i64 it.kind, .string (B it.raw), x])) (o : Obj) (hg : (W.alloc o).grownBy w3 v.ownBlock) : AccI w w3 v' (fvs ++ [x]) (its ++ [it]) := by
  have h' := h.kept ((Below.refl W.heap.size W).alloc (Nat.le_refl _) o)
  refine ⟨by rw [List.length_append, itemsCells_snoc _ _ _ _ h.len]; exact ho, by simp [h.len], fun j y s hy hs => ?_, h'.below.grown hg h'.below.size (fun k e => (h.row.lt k e).1)⟩
  rcases snoc_at hy with ⟨q, hy⟩ | ⟨q, rfl⟩
  · rw [List.getElem?_append_left (by rw [h.len]; exact q)] at hs
    exact h.each j y s hy hs
  · rw [q, ← h.len, List.getElem?_append_right (Nat.le_refl _)] at hs
    simp at hs
    subst hs; exact hx
set_option maxHeartbeats 1000000 in
theorem touch_any (a b : Int) (r s f g : Value) (hr : r.oneCell' = true) (w : World) (n m c d : Nat) (fa ga : Option Addr) (x y : ByteArray) (h1 : r = .string x) (h2 : s = .string y) (h3 : f = .slice fa n c) (h4 : g = .slice ga m d) :
    Calls Tryz.prog 136 #[.agg #[.int .i64 a, r, f], .agg #[.int .i64 b, s, g]] w fun e w' => e = .returned (.bool (a != 1 && b != 1)) ∧ Below w.heap.size w w' := by
  subst h1 h2 h3 h4
  have hb : Below w.heap.size w ((w.alloc (.cells #[.int .i64 a, .string x, .slice fa n c] 47)).alloc (.cells #[.int .i64 b, .string y, .slice ga m d] 47)) := ((Below.refl _ _).alloc (Nat.le_refl _) _).alloc (by simp) _
  cases ha : (a != 1) with
  | true =>
    cases hb2 : (b != 1) <;>
    · go_enter Tryz.func136, Tryz.ntmps136
      go_wp2_with fail
      go_ret
      exact ⟨rfl, hb⟩
  | false =>
    go_enter Tryz.func136, Tryz.ntmps136
    go_wp2_with fail
    go_ret
    exact ⟨rfl, hb⟩
set_option maxRecDepth 100000 in
set_option maxHeartbeats 8000000 in
theorem refApart_any (its : List It) (v : Value) (w : World) (h : Its w v its) (hn : its.length ≤ 100000) :
    Calls Tryz.prog 132 #[v] w fun e w' => ∃ u fvs, e = .returned u ∧ AccI w w' u fvs (apartL its) := by
  obtain ⟨i0, hi, hz0, hz1, hz2⟩ := info_parts infoItem
  obtain ⟨A, cap, rfl, hle, hc⟩ := h
  have HC := Lib.hid hc
  clear hc
  go_enter Tryz.func132, Tryz.ntmps132
  go_wp2_with fail
  go_loopw [3, 4] (fun u i wr => ∃ (k : Nat) (fvs : List Value), k ≤ its.length ∧ i = .int .i64 k ∧ AccI w wr u fvs (apartL (its.take k))) (fun _ i _ => its.length - (intOf i).toNat)
  case atStart => exact ⟨0, [], Nat.zero_le _, rfl, AccI.start w⟩
  case round =>
    obtain ⟨k, fvs, hk, rfl, hacc⟩ := hrel
    by_cases hlt : k < its.length
    · obtain ⟨it, hit⟩ : ∃ it, its[k]? = some it := ⟨_, List.getElem?_eq_getElem hlt⟩
      obtain ⟨b, off, fv, rfl, hbb, c0, c1, c2, hfl⟩ := HC.out k it hit
      obtain ⟨fa, fc, rfl, _, _⟩ := id hfl
      have hb := hacc.below
      have hlb := hb.size
      have al := apart_len (its.take k)
      rw [List.length_take] at al
      have SN := apart_snoc its k it hit
      have HFL := Lib.hid hfl
      have ACC := Lib.hid hacc
      have C0 := Lib.hid c0
      have C1 := Lib.hid c1
      have C2 := Lib.hid c2
      have cells : ∀ W, Below w.heap.size w W → W.cell? ⟨b, off + k * 3, none⟩ = some (.int .i64 it.kind) ∧ W.cell? ⟨b, off + k * 3 + 1, none⟩ = some (.string (B it.raw)) ∧ W.cell? ⟨b, off + k * 3 + 1 + 1, none⟩ = some (.slice fa it.fields.length fc) := fun W hW =>
        ⟨(hW.cell (p := ⟨b, off + k * 3, none⟩) hbb).trans C0.out, (hW.cell (p := ⟨b, off + k * 3 + 1, none⟩) hbb).trans C1.out, (hW.cell (p := ⟨b, off + k * 3 + 1 + 1, none⟩) hbb).trans C2.out⟩
      clear c0 c1 c2
      obtain ⟨c0, c1, c2⟩ := cells wr hb
      have CELLS := Lib.hid cells
      obtain ⟨gap, hgap⟩ : ∃ gap : Bool, (lastF false (its.take k) && it.kind != 1) = gap := ⟨_, rfl⟩
      have SN2 : Hid (apartL (its.take (k + 1)) = (apartL (its.take k) ++ if gap = true then [⟨1, [10], []⟩] else []) ++ [it]) := by
        show _ = _
        rw [SN, ← hgap]
        simp
      have PV : Hid (0 < k → ∃ jt : It, wr.cell? ⟨b, off + (k - 1) * 3, none⟩ = some (.int .i64 jt.kind) ∧ gap = (jt.kind != 1 && it.kind != 1)) := by
        intro hj
        obtain ⟨jt, hjt⟩ : ∃ jt, its[k - 1]? = some jt := ⟨_, List.getElem?_eq_getElem (by omega)⟩
        obtain ⟨b', off', fv', e, hbb', d0, _⟩ := HC.out (k - 1) jt hjt
        cases e
        refine ⟨jt, (hb.cell (p := ⟨b, off + (k - 1) * 3, none⟩) hbb').trans d0, ?_⟩
        have := lastF_at its (k - 1) jt hjt
        rw [show k - 1 + 1 = k by omega] at this
        rw [← hgap, this]
      have P0 : Hid (k = 0 → gap = false) := by
        intro h; rw [← hgap, h]; rfl
      have U := Lib.hid (show ∃ ua uc, u3 = .slice ua (apartL (its.take k)).length uc from by obtain ⟨ua, uc, h, _⟩ := own_slice hacc.row; exact ⟨ua, uc, h⟩)
      clear hacc hit hfl SN hgap cells
      generalize hap : apartL (its.take k) = ap at *
      clear hap
      have CK : Hid (wr = wr) := rfl
      go_upto_region 5 with fail
      go_cut [29] (fun c wx => c = .bool gap ∧ wx = wr)
      case first =>
        rcases Nat.eq_zero_or_pos k with h0 | h0
        · have hg := P0.out h0
          have hk0 : ¬ (0 < k) := by omega
          clear h0
          go_wp2_with fail
          go_meet
          exact ⟨by rw [hg], rfl⟩
        · obtain ⟨jt, d0, hg⟩ := PV.out h0
          cases hj : (jt.kind != 1) with
          | false =>
            rw [hj] at hg
            go_wp2_with fail
            go_meet
            exact ⟨by rw [hg]; rfl, rfl⟩
          | true =>
            rw [hj] at hg
            go_wp2_with fail
            go_meet
            exact ⟨by rw [hg]; rfl, rfl⟩
      case rest =>
        obtain ⟨rfl, rfl⟩ := hcut
        clear PV P0 HC
        obtain ⟨j, hjk⟩ : ∃ j, j = k := ⟨k, rfl⟩
        subst hjk
        cases gap with
        | false =>
          have SNH : Hid (apartL (its.take (j + 1)) = ap ++ [it]) := by
            show _ = _
            rw [SN2.out, if_neg (by decide), List.append_nil]
          clear SN2
          have HV := Lib.hid (cells_new_add wc 47 [.int .i64 it.kind, .string (B it.raw), .slice fa it.fields.length fc])
          have hrow := ACC.out.row
          have hlw := ACC.out.below.size
          go_wp2_with (at_builtin; refine wpList_append_own _ rfl _ _ 55 rfl w.heap.size 47 i0 _ 3 48 Tryz.underlying55 hi hz0 hz1 hz2 rfl (by decide) _ _ _ rfl (hrow.alloc _) ⟨wc.heap.size, 0, none⟩ 1 1 _ rfl rfl HV.out (by intro u hu; simp at hu; rcases hu with rfl | rfl | rfl <;> rfl) (by unfold maxLen; omega) (by omega) (by first | omega | (simp only [World.size_alloc]; omega) | (simp [World.setCell]; omega)) ?_)
          intro v' w5 hown' hgrow _
          have hacc5 := ACC.out.snoc HFL.out hown' _ hgrow
          obtain ⟨g', cap5, rfl⟩ := ownsRow_succ hown'
          go_wp2_with fail
          go_roundw
          case rel => exact ⟨j + 1, _, hlt, by go_num, by rw [SNH.out]; exact hacc5⟩
          case measure => simp [intOf]; omega
        | true =>
          have SNH : Hid (apartL (its.take (j + 1)) = (ap ++ [⟨1, [10], []⟩]) ++ [it]) := by
            show _ = _
            rw [SN2.out, if_pos rfl]
          clear SN2
          have HV0 := Lib.hid (cells_new_add wc 47 [.int .i64 1, .string ⟨#[10]⟩, .slice none 0 0])
          have hrow0 := ACC.out.row
          go_wp2_with (at_builtin; refine wpList_append_own _ rfl _ _ 55 rfl w.heap.size 47 i0 _ 3 48 Tryz.underlying55 hi hz0 hz1 hz2 rfl (by decide) _ _ _ rfl (hrow0.alloc _) ⟨wc.heap.size, 0, none⟩ 1 1 _ rfl rfl HV0.out (by intro u hu; simp at hu; rcases hu with rfl | rfl | rfl <;> rfl) (by unfold maxLen; omega) (by omega) (by first | omega | (simp only [World.size_alloc]; omega) | (simp [World.setCell]; omega)) ?_)
          intro v4 w4 hown4 hgrow4 _
          have hacc4 := ACC.out.snoc (it := ⟨1, [10], []⟩) (x := .slice none 0 0) ⟨none, 0, rfl, Nat.le_refl _, fun i f h => by simp at h⟩ hown4 _ hgrow4
          obtain ⟨g4, cap4, rfl⟩ := ownsRow_succ hown4
          obtain ⟨c0', c1', c2'⟩ := CELLS.out w4 hacc4.below
          have hlen4 : (ap ++ [(⟨1, [10], []⟩ : It)]).length = ap.length + 1 := by simp
          have HLEN := Lib.hid hlen4
          clear ACC hgrow4 hown4 hrow0 c0 c1 c2 HV0 hlen4
          have ACC := Lib.hid hacc4
          clear hacc4
          have HV := Lib.hid (cells_new_add w4 47 [.int .i64 it.kind, .string (B it.raw), .slice fa it.fields.length fc])
          have hrow := ACC.out.row
          rw [HLEN.out] at hrow
          have hlw := ACC.out.below.size
          go_wp2_with (at_builtin; refine wpList_append_own _ rfl _ _ 55 rfl w.heap.size 47 i0 _ 3 48 Tryz.underlying55 hi hz0 hz1 hz2 rfl (by decide) _ _ _ rfl (hrow.alloc _) ⟨w4.heap.size, 0, none⟩ 1 1 _ rfl rfl HV.out (by intro u hu; simp at hu; rcases hu with rfl | rfl | rfl <;> rfl) (by unfold maxLen; omega) (by omega) (by first | omega | (simp only [World.size_alloc]; omega) | (simp [World.setCell]; omega)) ?_)
          intro v' w5 hown' hgrow _
          have hacc5 := ACC.out.snoc HFL.out (by rw [HLEN.out]; exact hown') _ hgrow
          obtain ⟨g', cap5, rfl⟩ := ownsRow_succ hown'
          go_wp2_with fail
          go_roundw
          case rel => exact ⟨j + 1, _, hlt, by go_num, by rw [SNH.out]; exact hacc5⟩
          case measure => simp [intOf]; omega
    · obtain rfl : k = its.length := by omega
      rw [List.take_length] at hacc
      clear HC
      go_wp2_with fail
      go_ret
      exact ⟨_, fvs, rfl, hacc⟩
end Go.Proofs.YtiebbgbcojgeoaaGreatDoor

namespace Go.Proofs.YtiebbgbcojgeoaaGreatDoor
open Go.RowKit Go.Shelf

attribute [local go_sem] errV_0
set_option maxRecDepth 100000 in
set_option maxHeartbeats 4000000 in
theorem fold_any (fs : List (List UInt8 × List UInt8)) (v : Value) (w : World) (hs : Flds w v fs) (hn : fs.length ≤ 1000) (hl : ∀ f ∈ fs, f.1.length ≤ 100000 ∧ f.2.length ≤ 100000) :
    Calls Tryz.prog 149 #[v] w fun e w' => e = .returned (.tuple #[.string (B (foldT fs)), errV (foldN fs)]) ∧ Below w.heap.size w w' := by
  obtain ⟨A, cap, rfl, hle, hc⟩ := hs
  have PC := Lib.hid hc
  clear hc
  have B0 := Bld.new w (w.heap.size + 1)
  go_enter Tryz.func149, Tryz.ntmps149
  go_wp2_with fail
  go_loopw [13] (fun i wr => ∃ k : Nat, k ≤ fs.length ∧ i = .int .i64 k ∧ foldN fs = foldN (fs.drop k) ∧ Bld w.heap.size (w.heap.size + 1) (foldG (fs.take k)) wr ∧ (foldG (fs.take k)).length ≤ 4000 * k ∧ Below w.heap.size w wr) (fun i _ => fs.length - (intOf i).toNat)
  case atStart => exact ⟨0, Nat.zero_le _, rfl, rfl, B0, Nat.le_refl _, (Below.refl _ _).alloc (Nat.le_refl _) _⟩
  case round =>
    obtain ⟨k, hk, rfl, hN, hbl, hle4, hb⟩ := hrel
    by_cases hlt : k < fs.length
    · obtain ⟨f, hf⟩ : ∃ f, fs[k]? = some f := ⟨_, List.getElem?_eq_getElem hlt⟩
      obtain ⟨b, off, rfl, hbb, c0, c1⟩ := PC.out k f hf
      replace c0 := (hb.cell (p := ⟨b, off + k * 2, none⟩) hbb).trans c0
      replace c1 := (hb.cell (p := ⟨b, off + k * 2 + 1, none⟩) hbb).trans c1
      obtain ⟨hl1, hl2⟩ := hl f (List.mem_of_getElem? hf)
      have hdrop : fs.drop k = f :: fs.drop (k + 1) := by
        rw [List.drop_eq_getElem_cons hlt]
        rw [List.getElem?_eq_getElem hlt] at hf
        rw [Option.some.inj hf]
      have htake : fs.take (k + 1) = fs.take k ++ [f] := by rw [List.take_add_one, hf]; rfl
      rw [hdrop] at hN
      have NH := Lib.hid hN
      have TH := Lib.hid htake
      have hs1 := hb.size
      have hbs := hbl.lt
      have HB := Lib.hid (hbl.alloc (.cells #[.string (B f.1), .string (B f.2)] 73))
      have hba := hb.alloc hs1 (.cells #[.string (B f.1), .string (B f.2)] 73)
      by_cases hck : checkN f.1 f.2 = 0
      · have LG := fun w => lines_own f.1 f.2 hl1 hl2 w hck
        clear hdrop htake hN hf
        unfold fieldV at LG
        go_wp2_with fail
        refine (LG _).mono ?_
        rintro e w2 ⟨sv, base, rfl, hown, b2⟩
        have hb2 := hba.trans (b2.mono (by simp; omega))
        have hbl2 := HB.out.kept b2 (Nat.le_refl _)
        have htl := text_le hck
        have hm1 : 1 ≤ (linesL f.1 f.2).length := by rw [linesL_len]; omega
        have hm2 : (linesL f.1 f.2).length ≤ 4000 := by rw [textL_len] at htl; omega
        have G1 : Hid (foldG (fs.take (k + 1)) = foldG (fs.take k) ++ textL (linesL f.1 f.2)) := by
          show _ = _
          rw [TH.out, foldG_snoc]
        have G2 : Hid (foldN fs = foldN (fs.drop (k + 1))) := by
          show _ = _
          rw [NH.out]; show (if checkN f.1 f.2 = 0 then foldN (fs.drop (k + 1)) else _) = _; rw [if_pos hck]
        clear HB b2 hba LG hbl hb c0 c1 TH NH hck
        obtain ⟨g, cap', rfl⟩ := Joins.ownsRow_form hown (by simp; omega)
        rw [List.length_map] at hown ⊢
        generalize linesL f.1 f.2 = ls at *
        generalize foldG (fs.take k) = pre at *
        go_wp2_with fail
        go_loopw [27] (fun i wq => ∃ j : Nat, j ≤ ls.length ∧ i = .int .i64 j ∧ Bld w.heap.size (w.heap.size + 1) (pre ++ textL (ls.take j)) wq ∧ wq.ownsRow base 9 1 (.slice (some ⟨g, 0, none⟩) ls.length cap') ls.length ((ls.map B).map Value.string) ∧ Below w.heap.size w wq) (fun i _ => ls.length - (intOf i).toNat)
        case atStart => exact ⟨0, Nat.zero_le _, rfl, by simpa [textL] using hbl2, by simpa [OwnS] using hown, hb2⟩
        case round =>
          obtain ⟨j, hj, rfl, hblj, hownj, hbj⟩ := hrel
          have hsj := hbj.size
          by_cases hjl : j < ls.length
          · obtain ⟨x, hx⟩ : ∃ x, ls[j]? = some x := ⟨_, List.getElem?_eq_getElem hjl⟩
            have hcx := hownj.cellAt j (by omega)
            rw [List.getElem?_map, List.getElem?_map, hx] at hcx
            simp only [Option.map_some] at hcx
            have T1 : Hid (textL (ls.take (j + 1)) = (textL (ls.take j) ++ x) ++ [10]) := by
              show _ = _
              rw [List.take_add_one, hx]; exact textL_snoc _ _
            have t1 := textL_take ls (j + 1)
            rw [T1.out, List.length_append, List.length_append] at t1
            simp only [List.length_singleton] at t1
            have hlj := hblj.lt
            clear hx
            go_wp2_with fail
            refine (writes w.heap.size (w.heap.size + 1) _ (B x) wr hblj (by omega) (by omega) (by rw [B_size, List.length_append]; omega)).mono ?_
            rintro e w5 ⟨rfl, hbl5, hw5⟩
            obtain ⟨cs, hcs⟩ := hblj.cells
            have hownS : OwnS wr base (.slice (some ⟨g, 0, none⟩) ls.length cap') (ls.map B) := by unfold OwnS; rw [List.length_map]; exact hownj
            have hown5 := hownS.wrote hw5 hcs
            have hb5 := hbj.trans (hw5.below (Nat.le_refl _) (by omega) hsj)
            rw [B_data] at hbl5
            have hs5 := hb5.size
            have hl5 := hbl5.lt
            clear hw5 hownS hownj hblj hcs hbj hcx
            go_wp2_with fail
            refine (writes w.heap.size (w.heap.size + 1) _ ⟨#[10]⟩ w5 hbl5 (by omega) (by omega) (by simp only [List.length_append]; show _ + 1 ≤ _; omega)).mono ?_
            rintro e w6 ⟨rfl, hbl6, hw6⟩
            obtain ⟨cs, hcs⟩ := hbl5.cells
            have hown6 := hown5.wrote hw6 hcs
            have hb6 := hb5.trans (hw6.below (Nat.le_refl _) (by omega) hs5)
            clear hw6 hown5 hbl5 hcs hb5
            go_wp2_with fail
            go_roundw
            case rel =>
              refine ⟨j + 1, hjl, by go_num, ?_, ?_, hb6⟩
              · rw [T1.out, ← List.append_assoc, ← List.append_assoc]; exact hbl6
              · unfold OwnS at hown6; rw [List.length_map] at hown6; exact hown6
            case measure => simp [intOf]; omega
          · obtain rfl : j = ls.length := by omega
            rw [List.take_length] at hblj
            go_wp2_with fail
            go_roundw
            case rel =>
              refine ⟨k + 1, hlt, by go_num, G2.out, by rw [G1.out]; exact hblj, ?_, hbj⟩
              rw [G1.out, List.length_append]; omega
            case measure => simp [intOf]; omega
      · have LB := fun w => lines_bad f.1 f.2 hl1 hl2 w hck
        have hfn : foldN fs = checkN f.1 f.2 := by rw [NH.out]; unfold foldN; rw [if_neg hck]
        have hft : foldT fs = [] := by unfold foldT; rw [hfn, if_neg hck]
        rw [errV_pos _ (Nat.pos_of_ne_zero hck)] at LB
        have hev : errV (foldN fs) = .iface 75 (.int .i64 (checkN f.1 f.2 : Int)) := by rw [hfn, errV_pos _ (Nat.pos_of_ne_zero hck)]
        have FTH := Lib.hid hft
        have FNH := Lib.hid hev
        clear hdrop htake hN hf hfn hft NH hck hev
        generalize checkN f.1 f.2 = cn at *
        unfold fieldV at LB
        go_wp2_with fail
        refine (LB _).mono ?_
        rintro e w2 ⟨rfl, b2⟩
        have hb2 := hba.trans (b2.mono (by simp; omega))
        clear b2 LB
        go_wp2_with fail
        go_ret2
        exact ⟨by rw [FNH.out, FTH.out]; rfl, hb2⟩
    · obtain rfl : k = fs.length := by omega
      rw [List.take_length] at hbl
      rw [List.drop_length] at hN
      have h0 : foldN fs = 0 := hN
      have hft : foldT fs = foldG fs := by unfold foldT; rw [if_pos h0]
      have FTH := Lib.hid hft
      have FNH := Lib.hid h0
      have hbs := hbl.lt
      clear hN h0 hft PC hle4
      go_wp2_with fail
      refine (Tryz.Builder_String_any_k w.heap.size w.heap.size _ wr (hbl.library (Nat.le_refl _) (by omega)) (by omega)).mono ?_
      rintro e w5 ⟨rfl, _, b5, _⟩
      go_wp2_with fail
      go_ret2
      exact ⟨by rw [FTH.out, FNH.out]; rfl, hb.trans b5⟩
end Go.Proofs.YtiebbgbcojgeoaaGreatDoor

namespace Go.Proofs.YtiebbgbcojgeoaaGreatDoor
open Go.RowKit Go.Shelf

/-- The first field that isn't good. -/
def badAt : List Fld → Nat
  | [] => 0
  | f :: r => if checkN f.1 f.2 = 0 then badAt r + 1 else 0
def chkN (fs : List Fld) : Nat := if fs.length = 0 then 2 else if 40 < fs.length then 11 else foldN fs
def bare (fs : List Fld) : Prop := fs.length = 0 ∨ 40 < fs.length ∨ foldN fs = 0
instance (fs : List Fld) : Decidable (bare fs) := by unfold bare; infer_instance
def chkAt (fs : List Fld) : Int := if bare fs then -9 else (badAt fs : Nat)
/-- Check's answer, in memory. -/
def ChkV (lo : Nat) (w : World) (u : Value) (fs : List Fld) : Prop := if bare fs then u = errV (chkN fs) else FaultAt lo w u (badAt fs) (foldN fs)
theorem chkN_le (fs : List Fld) : chkN fs ≤ 11 := by
  unfold chkN
  have := foldN_le fs
  split
  · decide
  · split
    · decide
    · omega
theorem chkN_zero {fs : List Fld} (h : chkN fs = 0) : fs.length ≠ 0 ∧ fs.length ≤ 40 ∧ foldN fs = 0 := by
  unfold chkN at h
  split at h
  · cases h
  · split at h
    · cases h
    · exact ⟨by assumption, by omega, h⟩
theorem ChkV.zero {lo : Nat} {w : World} {u : Value} {fs : List Fld} (h : ChkV lo w u fs) (h0 : chkN fs = 0) : u = .nilIface := by
  obtain ⟨_, _, c⟩ := chkN_zero h0
  unfold ChkV at h
  rw [if_pos (.inr (.inr c)), h0] at h
  exact h
theorem ChkV.pos {lo : Nat} {w : World} {u : Value} {fs : List Fld} (h : ChkV lo w u fs) (h0 : chkN fs ≠ 0) : u = .iface 75 (.int .i64 (chkN fs : Nat)) ∨ ∃ q, u = .iface 107 (.pointer q) := by
  unfold ChkV at h
  split at h
  · rw [errV_pos _ (by omega)] at h; exact .inl h
  · obtain ⟨q, _, e, _⟩ := h; exact .inr ⟨_, e⟩
theorem ChkV.below {lo : Nat} {w w' : World} {u : Value} {fs : List Fld} {N : Nat} (h : ChkV lo w u fs) (hb : Below N w w') (hN : w.heap.size ≤ N) : ChkV lo w' u fs := by
  unfold ChkV at h ⊢
  split
  · rename_i hx; rw [if_pos hx] at h; exact h
  · rename_i hx; rw [if_neg hx] at h; exact h.below hb hN
theorem ChkV.mono {lo lo' : Nat} {w : World} {u : Value} {fs : List Fld} (h : ChkV lo w u fs) (hl : lo' ≤ lo) : ChkV lo' w u fs := by
  unfold ChkV at h ⊢
  split
  · rename_i hx; rw [if_pos hx] at h; exact h
  · rename_i hx; rw [if_neg hx] at h; exact h.mono hl
theorem ChkV.set {lo : Nat} {w : World} {u : Value} {fs : List Fld} (h : ChkV lo w u fs) (p : Addr) (hp : p.block < lo) (x : Value) : ChkV lo (w.setCell p x) u fs := by
  unfold ChkV at h ⊢
  split
  · rename_i hx; rw [if_pos hx] at h; exact h
  · rename_i hx
    rw [if_neg hx] at h
    obtain ⟨q, hq, e, hc⟩ := h
    exact ⟨q, hq, e, Cells.other hc (by omega) _⟩
attribute [local go_sem] errV_0
set_option maxRecDepth 100000 in
set_option maxHeartbeats 4000000 in
theorem chk_any (fs : List Fld) (v : Value) (w : World) (hs : Flds w v fs) (hn : fs.length ≤ 1000000) (hl : ∀ f ∈ fs, f.1.length ≤ 1000000 ∧ f.2.length ≤ 1000000) :
    Calls Tryz.prog 148 #[v] w fun e w' => ∃ u, e = .returned u ∧ Below w.heap.size w w' ∧ ChkV w.heap.size w' u fs := by
  obtain ⟨A, cap, rfl, hle, hc⟩ := hs
  have PC := Lib.hid hc
  have HL := Lib.hid hl
  clear hc hl
  by_cases h0 : fs.length = 0
  · have FIN : Hid (∀ W, ChkV w.heap.size W (.iface 75 (.int .i64 2)) fs) := by
      intro W
      unfold ChkV; rw [if_pos (.inl h0)]; unfold chkN; rw [if_pos h0]; rfl
    rw [h0]
    go_enter Tryz.func148, Tryz.ntmps148
    go_wp2_with fail
    go_ret
    exact ⟨_, rfl, Below.refl _ _, FIN.out _⟩
  by_cases h40 : 40 < fs.length
  · have FIN : Hid (∀ W, ChkV w.heap.size W (.iface 75 (.int .i64 11)) fs) := by
      intro W
      unfold ChkV; rw [if_pos (.inr (.inl h40))]; unfold chkN; rw [if_neg h0, if_pos h40]; rfl
    have c0 : ((fs.length : Int) == 0) = false := by simp; intro h; exact h0 (by rw [h]; rfl)
    go_enter Tryz.func148, Tryz.ntmps148
    go_wp2_with fail
    go_ret
    exact ⟨_, rfl, Below.refl _ _, FIN.out _⟩
  have FINZ : Hid (∀ W, foldN fs = 0 → ChkV w.heap.size W .nilIface fs) := by
    intro W hz
    unfold ChkV; rw [if_pos (.inr (.inr hz))]; unfold chkN; rw [if_neg h0, if_neg h40, hz]; rfl
  have FINB : Hid (∀ (W : World) (k n : Nat), w.heap.size ≤ W.heap.size → foldN fs = n → n ≠ 0 → badAt fs = k → ChkV w.heap.size (W.alloc (.cells #[.int .i64 (k : Nat), .iface 75 (.int .i64 (n : Nat))] 110)) (.iface 107 (.pointer (some ⟨W.heap.size, 0, none⟩))) fs) := by
    intro W k n hW hf hnz hk
    unfold ChkV
    rw [if_neg (by unfold bare; rintro (h | h | h) <;> omega), hf, hk, ← errV_pos n (by omega)]
    exact FaultAt.new W k n _ _ rfl hW
  have c0 : ((fs.length : Int) == 0) = false := by simp; intro h; exact h0 (by rw [h]; rfl)
  go_enter Tryz.func148, Tryz.ntmps148
  go_wp2_with fail
  go_loopw [18] (fun i wr => ∃ k : Nat, k ≤ fs.length ∧ i = .int .i64 k ∧ foldN fs = foldN (fs.drop k) ∧ badAt fs = badAt (fs.drop k) + k ∧ Below w.heap.size w wr) (fun i _ => fs.length - (intOf i).toNat)
  case atStart => exact ⟨0, Nat.zero_le _, rfl, rfl, rfl, Below.refl _ _⟩
  case round =>
    obtain ⟨k, hk, rfl, hN, hA, hb⟩ := hrel
    by_cases hlt : k < fs.length
    · obtain ⟨f, hf⟩ : ∃ f, fs[k]? = some f := ⟨_, List.getElem?_eq_getElem hlt⟩
      obtain ⟨b, off, rfl, hbb, c0', c1⟩ := PC.out k f hf
      replace c0' := (hb.cell (p := ⟨b, off + k * 2, none⟩) hbb).trans c0'
      replace c1 := (hb.cell (p := ⟨b, off + k * 2 + 1, none⟩) hbb).trans c1
      obtain ⟨hl1, hl2⟩ := HL.out f (List.mem_of_getElem? hf)
      have hdrop : fs.drop k = f :: fs.drop (k + 1) := by
        rw [List.drop_eq_getElem_cons hlt]
        rw [List.getElem?_eq_getElem hlt] at hf
        rw [Option.some.inj hf]
      have hs1 := hb.size
      have hba := hb.alloc hs1 (.cells #[.string (B f.1), .string (B f.2)] 73)
      have hza : (wr.alloc (.cells #[.string (B f.1), .string (B f.2)] 73)).heap.size = wr.heap.size + 1 := by simp
      have CK := fun W => check_any f.1 f.2 hl1 hl2 W
      unfold fieldV at CK
      rw [hdrop] at hN hA
      by_cases hck : checkN f.1 f.2 = 0
      · have G1 : Hid (foldN fs = foldN (fs.drop (k + 1))) := by
          show _ = _
          rw [hN]; show (if checkN f.1 f.2 = 0 then foldN (fs.drop (k + 1)) else _) = _; rw [if_pos hck]
        have G2 : Hid (badAt fs = badAt (fs.drop (k + 1)) + (k + 1)) := by
          show _ = _
          rw [hA]; show (if checkN f.1 f.2 = 0 then badAt (fs.drop (k + 1)) + 1 else _) + k = _; rw [if_pos hck]; omega
        rw [hck] at CK
        clear hdrop hN hA hf hck FINB FINZ PC HL
        go_wp2_with fail
        refine (CK _).mono ?_
        rintro e w2 ⟨rfl, b2⟩
        have hb2 := hba.trans (b2.mono (by omega))
        clear b2 CK
        go_wp2_with fail
        go_roundw
        case rel => exact ⟨k + 1, hlt, by go_num, G1.out, G2.out, hb2⟩
        case measure => simp [intOf]; omega
      · have hfn : foldN fs = checkN f.1 f.2 := by rw [hN]; unfold foldN; rw [if_neg hck]
        have hbn : badAt fs = k := by rw [hA]; unfold badAt; rw [if_neg hck]; omega
        have FIN := Lib.hid (fun W hW => FINB.out W k (checkN f.1 f.2) hW hfn hck hbn)
        rw [errV_pos _ (Nat.pos_of_ne_zero hck)] at CK
        clear hdrop hN hA hf hck FINB FINZ PC HL hfn hbn
        generalize checkN f.1 f.2 = cn at *
        go_wp2_with fail
        refine (CK _).mono ?_
        rintro e w2 ⟨rfl, b2⟩
        have hb2 := hba.trans (b2.mono (by omega))
        have hz2 := hb2.size
        clear b2 CK
        go_wp2_with fail
        go_ret
        exact ⟨_, rfl, hb2.alloc hz2 _, FIN.out w2 hz2⟩
    · obtain rfl : k = fs.length := by omega
      rw [List.drop_length] at hN
      have F0 := Lib.hid (fun W => FINZ.out W hN)
      clear hN hA FINB FINZ PC HL
      go_wp2_with fail
      go_ret
      exact ⟨_, rfl, hb, F0.out _⟩
/-- A stanza's text. -/
def stzT (fs : List Fld) : List UInt8 := if chkN fs = 0 then foldG fs else []
set_option maxRecDepth 100000 in
set_option maxHeartbeats 4000000 in
theorem stanza_any (fs : List Fld) (v : Value) (w : World) (hs : Flds w v fs) (hn : fs.length ≤ 1000000) (hl : ∀ f ∈ fs, f.1.length ≤ 100000 ∧ f.2.length ≤ 100000) :
    Calls Tryz.prog 113 #[v] w fun e w' => ∃ u, e = .returned (.tuple #[.string (B (stzT fs)), u]) ∧ Below w.heap.size w w' ∧ ChkV w.heap.size w' u fs := by
  have CK := Lib.hid (chk_any fs v w hs hn (fun f hf => by have := hl f hf; omega))
  by_cases h0 : chkN fs = 0
  · obtain ⟨a1, a2, a3⟩ := chkN_zero h0
    have FO := Lib.hid (fun w' (h : Flds w' v fs) => fold_any fs v w' h (by omega) hl)
    rw [a3] at FO
    have T1 : Hid (stzT fs = foldT fs) := by
      show _ = _
      unfold stzT foldT; rw [if_pos h0, if_pos a3]
    have HS := Lib.hid hs
    obtain ⟨A, cap, rfl, hle, _⟩ := id hs
    have H0 := Lib.hid h0
    clear hs hl h0 a3
    go_enter Tryz.func113, Tryz.ntmps113
    go_wp2_with fail
    refine CK.out.mono ?_
    rintro e w1 ⟨u, rfl, b1, hu⟩
    obtain rfl := hu.zero H0.out
    have HU := Lib.hid hu
    have hz1 := b1.size
    have F2 := Lib.hid (FO.out w1 (HS.out.below b1 (Nat.le_refl _)))
    clear hu CK FO
    go_wp2_with fail
    refine F2.out.mono ?_
    rintro e w2 ⟨rfl, b2⟩
    have hb2 := b1.trans (b2.mono hz1)
    have HU2 := Lib.hid (HU.out.below b2 (Nat.le_refl _))
    clear F2
    go_wp2_with fail
    go_ret2
    exact ⟨_, by rw [T1.out]; rfl, hb2, HU2.out⟩
  · have T1 : Hid (stzT fs = []) := by
      show _ = _
      unfold stzT; rw [if_neg h0]
    obtain ⟨A, cap, rfl, hle, _⟩ := id hs
    have H0 := Lib.hid h0
    clear hs hl h0
    go_enter Tryz.func113, Tryz.ntmps113
    go_wp2_with fail
    refine CK.out.mono ?_
    rintro e w1 ⟨u, rfl, b1, hu⟩
    have hz1 := b1.size
    have hp := hu.pos H0.out
    have HU := Lib.hid hu
    clear hu CK
    rcases hp with rfl | ⟨q, rfl⟩
    all_goals
      go_wp2_with fail
      go_ret2
      exact ⟨_, by rw [T1.out]; rfl, b1, HU.out⟩
end Go.Proofs.YtiebbgbcojgeoaaGreatDoor

namespace Go.Proofs.YtiebbgbcojgeoaaGreatDoor
open Go.RowKit Go.Shelf

set_option maxRecDepth 100000 in
theorem ret_i2 {fn : Func} {p u : Tmp} (h : fn.results = #[.cell p 47, .tmp u]) (tmps : Array Value) (w : World) (b : Nat) (cur : Array Value) (hp : tmps.getD p undef = .pointer (some ⟨b, 0, none⟩))
    (hc : Cells w b 47 cur) (hz : cur.size = 3) : (results fn tmps).run Tryz.prog w = .ok (.tuple #[.agg cur, tmps.getD u undef]) w := by
  have L := run_loadVar_row (P := Tryz.prog) w b 47 47 cur (0, 0) _ hc Tryz.underlying47 rfl (by rw [hz]; kernel_rfl)
  rw [results_cell_tmp h, hp]
  show ((loadVar _ _).run _ _).andThen _ = _
  rw [L]; rfl
theorem set3 (c0 c1 c2 v0 v1 v2 : Value) : (((#[c0, c1, c2].setIfInBounds 0 v0).setIfInBounds 1 v1).setIfInBounds 2 v2) = #[v0, v1, v2] := by
  simp [List.setIfInBounds_toArray, List.set]
def kindI (fs : List Fld) : Int := if chkN fs = 0 then 3 else 0
/-- Item's answer, in memory. -/
structure ItemR (w : World) (fs : List Fld) (e : Ending) (w' : World) (u x : Value) : Prop where
  ret : e = .returned (.tuple #[.agg #[.int .i64 (kindI fs), .string (B (stzT fs)), x], u])
  below : Below w.heap.size w w'
  chk : ChkV w.heap.size w' u fs
  own : chkN fs = 0 → w'.ownsRow w.heap.size 73 2 x fs.length (cellsF fs)
  none_ : chkN fs ≠ 0 → x = .slice none 0 0
attribute [local go_sem] errV_0
set_option maxRecDepth 100000 in
set_option maxHeartbeats 4000000 in
theorem item_any (fs : List Fld) (v : Value) (w : World) (hs : Flds w v fs) (hnil : ∀ n c, v = .slice none n c → c = 0) (hn : fs.length ≤ 1000000) (hl : ∀ f ∈ fs, f.1.length ≤ 100000 ∧ f.2.length ≤ 100000) :
    Calls Tryz.prog 76 #[v] w fun e w' => ∃ u x, ItemR w fs e w' u x := by
  have ST := Lib.hid (fun w' (h : Flds w' v fs) => stanza_any fs v w' h hn hl)
  have CL := Lib.hid (fun w' (h : Flds w' v fs) => clone_any fs v w' h hnil hn)
  have HS := Lib.hid hs
  obtain ⟨A, cap, rfl, hle, _⟩ := id hs
  have hba : Below w.heap.size w (w.alloc (.cells #[.int .i64 0, .string ⟨#[]⟩, .slice none 0 0] 47)) := (Below.refl _ _).alloc (Nat.le_refl _) _
  have hza : (w.alloc (.cells #[.int .i64 0, .string ⟨#[]⟩, .slice none 0 0] 47)).heap.size = w.heap.size + 1 := by simp
  have ST1 := Lib.hid (ST.out _ (HS.out.below hba (Nat.le_refl _)))
  have BX := Lib.hid (Cells.new w 47 #[.int .i64 0, .string ⟨#[]⟩, .slice none 0 0])
  clear hs hl hnil ST
  go_enter Tryz.func76, Tryz.ntmps76
  go_wp2_with fail
  refine ST1.out.mono ?_
  rintro e w1 ⟨u, rfl, b1, hu⟩
  have R1 := cells_kept BX.out b1 (by omega)
  have hb1 : Below w.heap.size w w1 := hba.trans (b1.mono (by omega))
  have hz1 := b1.size
  by_cases h0 : chkN fs = 0
  · obtain rfl := hu.zero h0
    have HU := Lib.hid hu
    have CL1 := Lib.hid (CL.out w1 (HS.out.below hb1 (Nat.le_refl _)))
    have KI : Hid (kindI fs = 3) := by show _ = _; unfold kindI; rw [if_pos h0]
    have H0 := Lib.hid h0
    have hzw := hb1.size
    clear hu h0 CL ST1 b1 BX HS
    generalize hT : stzT fs = T at *
    replace hT := Lib.hid hT
    go_wp2_with fail
    refine CL1.out.mono ?_
    rintro e w2 ⟨x, rfl, hx, b2⟩
    obtain ⟨xa, xc, hxe, _⟩ := own_slice hx
    subst hxe
    have R2 := cells_kept R1 b2 (by omega)
    have hb2 := hb1.trans (b2.mono hzw)
    have hz2 := b2.size
    have c0 := R2.cell 0
    have c1 := R2.cell 1
    have c2 := R2.cell 2
    have f0 := R2.frozen 0
    have f1 := R2.frozen 1
    have f2 := R2.frozen 2
    simp only [List.getElem?_toArray, List.getElem?_cons_zero, List.getElem?_cons_succ] at c0 c1 c2
    have RE := ((R2.set 0 (.int .i64 3)).set 1 (.string (B T))).set 2 (.slice xa fs.length xc)
    rw [set3] at RE
    have HB : Below w.heap.size w (((w2.setCell ⟨w.heap.size, 0, none⟩ (.int .i64 3)).setCell ⟨w.heap.size, 1, none⟩ (.string (B T))).setCell ⟨w.heap.size, 2, none⟩ (.slice xa fs.length xc)) :=
      ((hb2.setCell (p := ⟨w.heap.size, 0, none⟩) (Nat.le_refl _) _).setCell (p := ⟨w.heap.size, 1, none⟩) (Nat.le_refl _) _).setCell (p := ⟨w.heap.size, 2, none⟩) (Nat.le_refl _) _
    have HX := Lib.hid hx
    have HBH := Lib.hid HB
    have U2 := Lib.hid (HU.out.below b2 (Nat.le_refl _))
    clear HU hb2 b2 hb1 CL1 hx HB
    go_wp2_with fail
    refine bodyPost_ret (ret_i2 rfl _ _ w.heap.size _ rfl RE rfl) rfl ?_
    refine ⟨_, .slice xa fs.length xc, by rw [KI.out, hT.out], HBH.out, ?_, fun _ => ?_, fun h => absurd H0.out h⟩
    · have h := U2.out
      unfold ChkV at h ⊢
      have hb : bare fs := .inr (.inr (chkN_zero H0.out).2.2)
      rw [if_pos hb] at h ⊢
      exact h
    · have hne : ∀ k, Value.ownBlock (.slice xa fs.length xc) = some k → k ≠ w.heap.size := fun k e => by have := (HX.out.lt k e).1; omega
      exact row_cell (p := ⟨w.heap.size, 2, none⟩) (row_cell (p := ⟨w.heap.size, 1, none⟩) (row_cell (p := ⟨w.heap.size, 0, none⟩) (rowBase HX.out (by omega)) (fun e => hne _ e rfl) _) (fun e => hne _ e rfl) _) (fun e => hne _ e rfl) _
  · have hp := hu.pos h0
    have HU := Lib.hid hu
    have KI : Hid (kindI fs = 0) := by show _ = _; unfold kindI; rw [if_neg h0]
    have TI : Hid (stzT fs = []) := by show _ = _; unfold stzT; rw [if_neg h0]
    have H0 := Lib.hid h0
    have c0 := R1.cell 0
    have c1 := R1.cell 1
    have c2 := R1.cell 2
    have f0 := R1.frozen 0
    have f1 := R1.frozen 1
    have f2 := R1.frozen 2
    simp only [List.getElem?_toArray, List.getElem?_cons_zero, List.getElem?_cons_succ] at c0 c1 c2
    have RE := ((R1.set 0 (.int .i64 0)).set 1 (.string ⟨#[]⟩)).set 2 (.slice none 0 0)
    rw [set3] at RE
    have HB : Below w.heap.size w (((w1.setCell ⟨w.heap.size, 0, none⟩ (.int .i64 0)).setCell ⟨w.heap.size, 1, none⟩ (.string ⟨#[]⟩)).setCell ⟨w.heap.size, 2, none⟩ (.slice none 0 0)) :=
      ((hb1.setCell (p := ⟨w.heap.size, 0, none⟩) (Nat.le_refl _) _).setCell (p := ⟨w.heap.size, 1, none⟩) (Nat.le_refl _) _).setCell (p := ⟨w.heap.size, 2, none⟩) (Nat.le_refl _) _
    have HBH := Lib.hid HB
    clear hu h0 CL ST1 b1 BX HS hb1 HB
    have FIN : Hid (ChkV w.heap.size (((w1.setCell ⟨w.heap.size, 0, none⟩ (.int .i64 0)).setCell ⟨w.heap.size, 1, none⟩ (.string ⟨#[]⟩)).setCell ⟨w.heap.size, 2, none⟩ (.slice none 0 0)) u fs) :=
      (((HU.out.set ⟨w.heap.size, 0, none⟩ (by show w.heap.size < _; omega) _).set ⟨w.heap.size, 1, none⟩ (by show w.heap.size < _; omega) _).set ⟨w.heap.size, 2, none⟩ (by show w.heap.size < _; omega) _).mono (by omega)
    rcases hp with rfl | ⟨q, rfl⟩
    all_goals
      go_wp2_with fail
      refine bodyPost_ret (ret_i2 rfl _ _ w.heap.size _ rfl RE rfl) rfl ?_
      exact ⟨_, .slice none 0 0, by rw [KI.out, TI.out]; rfl, HBH.out, FIN.out, fun h => absurd h H0.out, fun _ => rfl⟩
end Go.Proofs.YtiebbgbcojgeoaaGreatDoor

namespace Go.Proofs.YtiebbgbcojgeoaaGreatDoor
open Go.RowKit Go.Shelf

theorem OwnS.grow {w5 : World} {base g' cap' : Nat} {ls : List ByteArray} {y : ByteArray} {n : Nat} (h : w5.ownsRow base 9 1 (.slice (some ⟨g', 0, none⟩) (n + 1) cap') (n + 1) (ls.map Value.string ++ [Value.string y])) (hl : ls.length = n) : OwnS w5 base (.slice (some ⟨g', 0, none⟩) (n + 1) cap') (ls ++ [y]) := by
  unfold OwnS
  rw [List.length_append, List.map_append, hl]; exact h
theorem OwnS.form {w : World} {base : Nat} {v : Value} {ls : List ByteArray} (h : OwnS w base v ls) (hn : 0 < ls.length) : ∃ g cap, v = .slice (some ⟨g, 0, none⟩) ls.length cap ∧ base ≤ g ∧ g < w.heap.size := by
  obtain ⟨g, cap, e⟩ := Joins.ownsRow_form h hn
  have := World.ownsRow.lt h g (by rw [e]; rfl)
  exact ⟨g, cap, e, this⟩
theorem OwnS.cell {w : World} {base g cap n : Nat} {ls : List ByteArray} (h : OwnS w base (.slice (some ⟨g, 0, none⟩) n cap) ls) (hn : ls.length = n) (j : Nat) (x : ByteArray) (hx : ls[j]? = some x) : w.cell? ⟨g, j, none⟩ = some (.string x) := by
  subst hn
  have hj : j < ls.length := by
    rcases Nat.lt_or_ge j ls.length with q | q
    · exact q
    · rw [List.getElem?_eq_none q] at hx; cases hx
  rw [World.ownsRow.cellAt h j (by omega), List.getElem?_map, hx]; rfl

set_option maxRecDepth 100000 in
set_option maxHeartbeats 4000000 in
theorem refParts_any (l : List UInt8) (hl : l.length ≤ 1000000) (w : World) :
    Calls Tryz.prog 193 #[.string (B l)] w fun e w' => ∃ v, e = .returned v ∧ OwnS w' w.heap.size v ((partsL l).map B) ∧ Below w.heap.size w w' := by
  obtain ⟨i0, hi, hz0, hz1, hz2⟩ := info_parts infoStr
  have hsz := B_size l
  have hd := B_data l
  generalize B l = s at *
  have HD := Lib.hid hd
  go_enter Tryz.func193, Tryz.ntmps193
  go_wp2_with fail
  go_loopw [3, 4] (fun v i wr => ∃ k : Nat, k ≤ s.size ∧ i = .int .i64 k ∧ OwnS wr w.heap.size v ((partsL (l.take k)).map B) ∧ (partsL (l.take k)).length ≤ k + 1 ∧ Below w.heap.size w wr) (fun _ i _ => s.size - (intOf i).toNat)
  case atStart => exact ⟨0, Nat.zero_le _, rfl, OwnS.one w _ (Nat.le_refl _) _, by simp [partsL], (Below.refl _ _).alloc (Nat.le_refl _) _⟩
  case round =>
    obtain ⟨k, hk, rfl, hown, hlen, hb⟩ := hrel
    by_cases hlt : k < s.size
    · have e : l[k]? = some s[k] := by
        rw [← HD.out, List.getElem?_eq_getElem (by rw [← Lib.size_eq]; exact hlt)]; rfl
      have htk : l.take (k + 1) = l.take k ++ [s[k]] := by rw [List.take_add_one, e]; rfl
      have hex : s.extract k (k + 1) = B [s[k]] := by
        rw [← B_of (s.extract k (k + 1)), Lib.extract_data, HD.out]
        congr 1
        rw [show k + 1 - k = 1 by omega]
        have : (l.drop k)[0]? = some s[k] := by rw [List.getElem?_drop]; exact e
        cases hdl : l.drop k with
        | nil => rw [hdl] at this; simp at this
        | cons a b => rw [hdl] at this; simp at this; subst this; rfl
      have q2 := byte_eq (c := s[k]) (d := 10) 10 rfl
      have hs3 := hb.size
      have hn0 : 0 < ((partsL (l.take k)).map B).length := by rw [List.length_map]; exact List.length_pos_iff.2 (partsL_ne _)
      cases h5 : (s[k] == 10) with
      | true =>
        rw [h5] at q2
        have h10 : s[k] = 10 := by simpa using h5
        have T1 : Hid ((partsL (l.take (k + 1))).map B = (partsL (l.take k)).map B ++ [⟨#[]⟩]) := by
          show _ = _
          rw [htk, h10, partsL_snoc_nl, List.map_append]; rfl
        have T2 : Hid ((partsL (l.take (k + 1))).length = ((partsL (l.take k)).map B).length + 1) := by
          show _ = _
          rw [htk, h10, partsL_snoc_nl, List.length_append, List.length_map]; rfl
        rw [← List.length_map (f := B)] at hlen
        clear htk hex h10 e h5 hd
        generalize (partsL (l.take k)).map B = ls at *
        obtain ⟨g, cap, rfl, hg1, hg2⟩ := hown.form hn0
        have HC := Lib.hid (strCell wr ⟨#[]⟩ 9)
        have hown4 : wr.ownsRow w.heap.size 9 1 (.slice (some ⟨g, 0, none⟩) ls.length cap) ls.length (ls.map Value.string) := hown
        obtain ⟨n, hn⟩ : ∃ n, ls.length = n := ⟨_, rfl⟩
        rw [hn] at hown4 hlen hn0
        have HN := Lib.hid hn
        simp only [hn]
        clear hown hn
        go_wp2_with (at_builtin; refine wpList_append_own _ rfl _ _ 69 rfl w.heap.size 9 i0 _ 1 16 Tryz.underlying69 hi hz0 hz1 hz2 rfl (by decide) _ _ _ rfl (hown4.alloc _) ⟨wr.heap.size, 0, none⟩ 1 1 _ rfl rfl HC.out ?c2 ?c3 ?c4 ?c5 ?_)
        case c2 => intro u hu; simp at hu; subst hu; rfl
        case c3 => unfold maxLen; omega
        case c4 => omega
        case c5 => simp; omega
        intro v' w5 hown' hgrow _
        obtain ⟨g', cap', rfl⟩ := ownsRow_succ hown'
        have hb5 : Below w.heap.size w w5 := (hb.alloc (by omega) _).grown hgrow (by simp; omega) (fun j ej => (hown4.lt j ej).1)
        have hown6 := OwnS.grow (ls := ls) (y := ⟨#[]⟩) hown' HN.out
        rw [← T1.out] at hown6
        go_wp2_with fail
        go_roundw
        case rel => exact ⟨k + 1, hlt, by go_num, hown6, by rw [T2.out, HN.out]; omega, hb5⟩
        case measure => simp [intOf]; omega
      | false =>
        rw [h5] at q2
        have h10 : s[k] ≠ 10 := by simpa using h5
        obtain ⟨pre, p, p1, p2⟩ := partsL_snoc (l.take k) s[k] h10
        have hm : ((partsL (l.take k)).map B).length = pre.length + 1 := by rw [p1]; simp
        rw [p1, List.length_append] at hlen
        simp only [List.length_singleton] at hlen
        obtain ⟨g, cap, rfl, hg1, hg2⟩ := hown.form hn0
        rw [hm] at hown ⊢
        have hcell := hown.cell hm pre.length (B p) (by rw [p1, List.map_append, List.getElem?_append_right (by simp)]; simp)
        have hown4 : wr.ownsRow w.heap.size 9 1 (.slice (some ⟨g, 0, none⟩) (pre.length + 1) cap) (pre.length + 1) ((pre.map B).map Value.string ++ [.string (B p)]) := by
          have := hown
          unfold OwnS at this
          rw [hm, p1] at this
          simpa using this
        have hfz := hown4.frozenAt pre.length
        have hst := hown4.stored pre.length (.string (B p ++ B [s[k]]))
        rw [List.set_append_right _ _ (by simp)] at hst
        simp only [List.length_map, Nat.sub_self, List.set_cons_zero, B_append] at hst
        have T1 : Hid ((partsL (l.take (k + 1))).map B = pre.map B ++ [B (p ++ [s[k]])]) := by
          show _ = _
          rw [htk, p2, List.map_append]; rfl
        have T2 : Hid ((partsL (l.take (k + 1))).length = pre.length + 1) := by
          show _ = _
          rw [htk, p2, List.length_append]; rfl
        obtain ⟨hst1, hst2⟩ := hst
        have hown6 := OwnS.grow (ls := pre.map B) (y := B (p ++ [s[k]])) hst1 (by simp)
        rw [← T1.out] at hown6
        have hb6 := hb.setCell (p := ⟨g, pre.length, none⟩) hg1 (.string (B (p ++ [s[k]])))
        have HB1 := Lib.hid hown6
        have HB2 := Lib.hid hb6
        have hpre : pre.length ≤ 1000000 := by omega
        have hwr : IntKind.i64.wrap (pre.length : Int) = pre.length := IntWalk.i64_in _ (by omega)
        have hlt2 : (pre.length : Int) < (pre.length : Int) + 1 := by omega
        have hwk : IntKind.i64.wrap ((k : Int) + 1) = (k : Int) + 1 := IntWalk.i64_in _ (by omega)
        have hk1 : (k : Int) + 1 ≤ (l.length : Int) := by omega
        have hk2 : (k : Int) ≤ (k : Int) + 1 := by omega
        have hk3 : (k : Int) + 1 ≤ (s.size : Int) := by omega
        have hba := B_append p [s[k]]
        have z1 := B_size p
        have z2 := B_size [s[k]]
        have hpl : p.length ≤ 1000000 := by
          have := (parts_le (l.take k)); rw [p1] at this; simp at this; omega
        simp only [List.length_singleton] at z2
        rw [← hex] at hba z2
        clear hown hown4 hst1 hst2 hown6 hb6 p1 p2 htk e hd hm h10 hex
        have hcat : ¬ 9223372036854775807 < p.length + 1 := by omega
        generalize B (p ++ [s[k]]) = np at *
        generalize B p = bp at *
        go_wp2_with fail
        refine wp_region_still_tail 17 (by kernel_rfl) (by kernel_rfl) ?_
        simp only [List.take_succ_cons, List.take_zero, List.drop_succ_cons, List.drop_zero]
        repeat still_step
        refine wpStill_nil ?_
        change wpList _ _ _ _ _ wr.drew
        go_wp2_with fail
        go_roundw
        case rel => exact ⟨k + 1, hlt, by go_num, HB1.out, by rw [T2.out]; omega, HB2.out.drew⟩
        case measure => simp [intOf]; omega
    · obtain rfl : k = s.size := by omega
      rw [List.take_of_length_le (by omega)] at hown
      go_wp2_with fail
      go_ret
      exact ⟨_, rfl, hown, hb⟩
end Go.Proofs.YtiebbgbcojgeoaaGreatDoor

