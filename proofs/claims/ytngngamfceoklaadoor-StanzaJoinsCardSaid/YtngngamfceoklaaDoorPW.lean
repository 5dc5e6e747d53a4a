/- Items joined; the fields of the records. -/
import Derived.Test.YtngngamfceoklaaDoorPN
import Derived.Test.YtngngamfceoklaaDoorBU
import Derived.Laws.AppendOwnNone
namespace Go.Proofs.YtngngamfceoklaaDoor
open Go.RowKit Go.Shelf

theorem raws_len (its : List It) (h : ∀ it ∈ its, it.raw.length ≤ 100000) : ∀ k, ((its.take k).flatMap It.raw).length ≤ 100000 * k := by
  intro k
  induction k with
  | zero => simp
  | succ k ih =>
    rw [List.take_add_one, List.flatMap_append, List.length_append]
    cases hk : its[k]? with
    | none => simp only [Option.toList_none, List.flatMap_nil, List.length_nil]; omega
    | some it =>
      have := h it (List.mem_of_getElem? hk)
      simp only [Option.toList_some, List.flatMap_cons, List.flatMap_nil, List.append_nil]; omega
theorem raws_snoc (its : List It) (k : Nat) (it : It) (h : its[k]? = some it) : (its.take (k + 1)).flatMap It.raw = (its.take k).flatMap It.raw ++ it.raw := by
  rw [List.take_add_one, h]; simp
set_option maxRecDepth 100000 in
set_option maxHeartbeats 4000000 in
theorem join_any (its : List It) (v : Value) (w : World) (h : Its w v its) (hn : its.length ≤ 100000) (hr : ∀ it ∈ its, it.raw.length ≤ 100000) :
    Calls Tryd.prog 15 #[v] w fun e w' => e = .returned (.string (B (its.flatMap It.raw))) ∧ Below w.heap.size w w' := by
  have B0 := Bld.new w (w.heap.size + 1)
  have IT := Lib.hid h
  obtain ⟨A, cap, rfl, hle, _⟩ := h
  have HL := Lib.hid (raws_len its hr)
  have HR := Lib.hid hr
  clear hr
  go_enter Tryd.func15, Tryd.ntmps15
  go_wp2_with fail
  go_loopw [8] (fun i wr => ∃ k : Nat, k ≤ its.length ∧ i = .int .i64 k ∧ Bld w.heap.size (w.heap.size + 1) ((its.take k).flatMap It.raw) wr ∧ Below w.heap.size w wr) (fun i _ => its.length - (intOf i).toNat)
  case atStart => exact ⟨0, Nat.zero_le _, rfl, B0, (Below.refl _ _).alloc (Nat.le_refl _) _⟩
  case round =>
    obtain ⟨k, hk, rfl, hbl, hb⟩ := hrel
    have hz := hb.size
    have hbs := hbl.lt
    by_cases hlt : k < its.length
    · obtain ⟨it, hit⟩ : ∃ it, its[k]? = some it := ⟨_, List.getElem?_eq_getElem hlt⟩
      obtain ⟨b, off, cap', fa, fc, e, _, hbb, c0, c1, c2, hfl⟩ := (IT.out.below hb (Nat.le_refl _)).at_ hit
      cases e
      have hl1 := HL.out k
      have hl2 := HR.out it (List.mem_of_getElem? hit)
      have SN := Lib.hid (raws_snoc its k it hit)
      have hba := hb.alloc hz (.cells #[.int .i64 it.kind, .string (B it.raw), .slice fa it.fields.length fc] 42)
      have hbla := hbl.alloc (.cells #[.int .i64 it.kind, .string (B it.raw), .slice fa it.fields.length fc] 42)
      have zr := B_size it.raw
      clear hit IT HL HR hbl
      generalize (its.take k).flatMap It.raw = pre at *
      go_wp2_with fail
      refine (writes w.heap.size (w.heap.size + 1) _ (B it.raw) _ hbla (by omega) (by simp; omega) (by omega)).mono ?_
      rintro e w5 ⟨rfl, hbl5, hw5⟩
      rw [B_data] at hbl5
      have hb5 := hba.trans (hw5.below (Nat.le_refl _) (by omega) (by simp; omega))
      clear hbla hw5
      go_wp2_with fail
      go_roundw
      case rel => exact ⟨k + 1, hlt, by go_num, by rw [SN.out]; exact hbl5, hb5⟩
      case measure => simp [intOf]; omega
    · obtain rfl : k = its.length := by omega
      rw [List.take_length] at hbl
      clear IT HL HR
      go_wp2_with fail
      refine (Tryd.Builder_String_any_k w.heap.size w.heap.size _ wr (hbl.library (Nat.le_refl _) (by omega)) (by omega)).mono ?_
      rintro e w5 ⟨rfl, _, b5, _⟩
      go_wp2_with fail
      go_ret
      exact ⟨rfl, hb.trans b5⟩
set_option maxRecDepth 100000 in
set_option maxHeartbeats 4000000 in
theorem refJoin_any (its : List It) (v : Value) (w : World) (h : Its w v its) (hn : its.length ≤ 100000) (hr : ∀ it ∈ its, it.raw.length ≤ 100000) :
    Calls Tryd.prog 22 #[v] w fun e w' => e = .returned (.string (B (its.flatMap It.raw))) ∧ Below w.heap.size w w' := by
  have IT := Lib.hid h
  obtain ⟨A, cap, rfl, hle, _⟩ := h
  have HL := Lib.hid (raws_len its hr)
  have HR := Lib.hid hr
  clear hr
  go_enter Tryd.func22, Tryd.ntmps22
  go_wp2_with fail
  go_loopw [3, 4] (fun s i wr => ∃ k : Nat, k ≤ its.length ∧ i = .int .i64 k ∧ s = .string (B ((its.take k).flatMap It.raw)) ∧ Below w.heap.size w wr) (fun _ i _ => its.length - (intOf i).toNat)
  case atStart => exact ⟨0, Nat.zero_le _, rfl, rfl, Below.refl _ _⟩
  case round =>
    obtain ⟨k, hk, rfl, rfl, hb⟩ := hrel
    by_cases hlt : k < its.length
    · obtain ⟨it, hit⟩ : ∃ it, its[k]? = some it := ⟨_, List.getElem?_eq_getElem hlt⟩
      obtain ⟨b, off, cap', fa, fc, e, _, hbb, c0, c1, c2, hfl⟩ := (IT.out.below hb (Nat.le_refl _)).at_ hit
      cases e
      have hl1 := HL.out k
      have hl2 := HR.out it (List.mem_of_getElem? hit)
      have SN := Lib.hid (raws_snoc its k it hit)
      have zr := B_size it.raw
      have zp := B_size ((its.take k).flatMap It.raw)
      clear hit IT HL HR
      generalize (its.take k).flatMap It.raw = pre at *
      go_wp2_with fail
      go_roundw
      case rel => exact ⟨k + 1, hlt, by go_num, by rw [SN.out, B_append], hb⟩
      case measure => simp [intOf]; omega
    · obtain rfl : k = its.length := by omega
      rw [List.take_length]
      clear IT HL HR
      go_wp2_with fail
      go_ret
      exact ⟨rfl, hb⟩
end Go.Proofs.YtngngamfceoklaaDoor
