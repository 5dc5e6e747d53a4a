/- Fold by definition. -/
import Derived.Test.YtcakphfjeplnnaaDoorFQ
namespace Go.Proofs.YtcakphfjeplnnaaDoor
open Go.RowKit Go.Shelf

theorem text_any_le (k v : List UInt8) (hk : k.length ≤ 100000) (hv : v.length ≤ 100000) : (textL (linesL k v)).length ≤ 500000 := by
  rw [textL_len]
  have := lines_sum k v
  omega
set_option maxRecDepth 100000 in
set_option maxHeartbeats 4000000 in
theorem refFold_any (fs : List (List UInt8 × List UInt8)) (v : Value) (w : World) (hs : Flds w v fs) (hn : fs.length ≤ 1000) (hl : ∀ f ∈ fs, f.1.length ≤ 100000 ∧ f.2.length ≤ 100000) :
    Calls Tryd.prog 21 #[v] w fun e w' => e = .returned (.string (B (foldG fs))) ∧ Below w.heap.size w w' := by
  obtain ⟨A, cap, rfl, hle, hc⟩ := hs
  have PC := Lib.hid hc
  clear hc
  go_enter Tryd.func21, Tryd.ntmps21
  go_wp2_with fail
  go_loopw [3, 4] (fun s i wr => ∃ k : Nat, k ≤ fs.length ∧ i = .int .i64 k ∧ s = .string (B (foldG (fs.take k))) ∧ (foldG (fs.take k)).length ≤ 500000 * k ∧ Below w.heap.size w wr) (fun _ i _ => fs.length - (intOf i).toNat)
  case atStart => exact ⟨0, Nat.zero_le _, rfl, rfl, Nat.le_refl _, Below.refl _ _⟩
  case round =>
    obtain ⟨k, hk, rfl, rfl, hlen, hb⟩ := hrel
    by_cases hlt : k < fs.length
    · obtain ⟨f, hf⟩ : ∃ f, fs[k]? = some f := ⟨_, List.getElem?_eq_getElem hlt⟩
      obtain ⟨b, off, rfl, hbb, c0, c1⟩ := PC.out k f hf
      replace c0 := (hb.cell (p := ⟨b, off + k * 2, none⟩) hbb).trans c0
      replace c1 := (hb.cell (p := ⟨b, off + k * 2 + 1, none⟩) hbb).trans c1
      obtain ⟨hl1, hl2⟩ := hl f (List.mem_of_getElem? hf)
      have htake : fs.take (k + 1) = fs.take k ++ [f] := by rw [List.take_add_one, hf]; rfl
      have G1 : Hid (foldG (fs.take (k + 1)) = foldG (fs.take k) ++ textL (linesL f.1 f.2)) := by
        show _ = _
        rw [htake, foldG_snoc]
      have RL := fun w => refLines_any f.1 f.2 hl1 hl2 w
      have htl := text_any_le f.1 f.2 hl1 hl2
      have hm1 : 1 ≤ (linesL f.1 f.2).length := by rw [linesL_len]; omega
      have hm2 : (linesL f.1 f.2).length ≤ 500000 := by rw [textL_len] at htl; omega
      unfold fieldV at RL
      clear htake hf
      generalize foldG (fs.take k) = pre at *
      go_wp2_with fail
      refine (RL _).mono ?_
      rintro e w2 ⟨sv, base, rfl, hown, b2⟩
      have hb2 := hb.trans (b2.mono hb.size)
      obtain ⟨g, cap', rfl, _, _⟩ := hown.form (by simp; omega)
      have CL := Lib.hid (fun (j : Nat) x (hx : (linesL f.1 f.2)[j]? = some x) => hown.cell rfl j (B x) (by rw [List.getElem?_map, hx]; rfl))
      rw [List.length_map] at *
      clear hown b2 RL
      generalize linesL f.1 f.2 = ls at *
      go_wp2_with fail
      go_loopw [3, 19] (fun s i wq => ∃ j : Nat, j ≤ ls.length ∧ i = .int .i64 j ∧ s = .string (B (pre ++ textL (ls.take j))) ∧ w2 = wq) (fun _ i _ => ls.length - (intOf i).toNat)
      case atStart => exact ⟨0, Nat.zero_le _, rfl, by simp [textL], rfl⟩
      case round =>
        obtain ⟨j, hj, rfl, rfl, rfl⟩ := hrel
        by_cases hjl : j < ls.length
        · obtain ⟨x, hx⟩ : ∃ x, ls[j]? = some x := ⟨_, List.getElem?_eq_getElem hjl⟩
          have hcx := CL.out j x hx
          have T1 : Hid (B (pre ++ textL (ls.take (j + 1))) = (B (pre ++ textL (ls.take j)) ++ B x) ++ ⟨#[10]⟩) := by
            show _ = _
            rw [List.take_add_one, hx, show (some x).toList = [x] from rfl, textL_snoc, show (⟨#[10]⟩ : ByteArray) = B [10] from rfl, B_append, B_append]; simp
          have t1 := textL_take ls (j + 1)
          rw [List.take_add_one, hx, show (some x).toList = [x] from rfl, textL_snoc, List.length_append, List.length_append] at t1
          simp only [List.length_singleton] at t1
          have y1 := B_size (pre ++ textL (ls.take j))
          rw [List.length_append] at y1
          have y2 := B_size x
          have y3 : (B (pre ++ textL (ls.take j)) ++ B x).size = pre.length + (textL (ls.take j)).length + x.length := by
            rw [B_append, B_size, List.length_append, List.length_append]
          clear hx
          generalize B (pre ++ textL (ls.take j)) = acc at *
          generalize B x = X at *
          go_wp2_with fail
          go_roundw
          case rel => exact ⟨j + 1, hjl, by go_num, by rw [T1.out], trivial⟩
          case measure => simp [intOf]; omega
        · obtain rfl : j = ls.length := by omega
          rw [List.take_length]
          go_wp2_with fail
          go_roundw
          case rel =>
            refine ⟨k + 1, hlt, by go_num, by rw [G1.out], ?_, hb2⟩
            rw [G1.out, List.length_append]; omega
          case measure => simp [intOf]; omega
    · obtain rfl : k = fs.length := by omega
      rw [List.take_length]
      go_wp2_with fail
      go_ret
      exact ⟨rfl, hb⟩
end Go.Proofs.YtcakphfjeplnnaaDoor
