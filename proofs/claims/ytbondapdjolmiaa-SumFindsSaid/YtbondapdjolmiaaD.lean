import Derived.Test.YtbondapdjolmiaaC
import Derived.Deep.WholeRow
namespace Go.Proofs.Ytbondapdjolmiaa
open Go.RowKit
/-- a slice value that reads as these strings -/
def Strs (w : World) (v : Value) (ss : List ByteArray) : Prop :=
  ∃ A cap, v = .slice A ss.length cap ∧ (∀ i s, ss[i]? = some s → ∃ b off, A = some ⟨b, off, none⟩ ∧ b < w.heap.size ∧ w.cell? ⟨b, off + i, none⟩ = some (.string s))
def cat (ss : List ByteArray) : List UInt8 := ss.flatMap (·.data.toList)
theorem cat_snoc (ss : List ByteArray) (k : Nat) (s : ByteArray) (h : ss[k]? = some s) : cat (ss.take (k + 1)) = cat (ss.take k) ++ s.data.toList := by
  have hk : k < ss.length := by
    rcases Nat.lt_or_ge k ss.length with h' | h'
    · exact h'
    · rw [List.getElem?_eq_none h'] at h; cases h
  rw [List.take_succ_eq_append_getElem hk, cat, List.flatMap_append]
  have : ss[k] = s := by rw [List.getElem?_eq_getElem hk] at h; injection h
  rw [this]
  simp [cat]
theorem tab_info : (Try.prog.info? 39).map (·.size) = some (tab 16).size := by kernel_rfl
theorem tab_one : (tab 16).all (·.oneCell') = true := by kernel_rfl
theorem compl (x : Nat) (h : x < 4294967296) : bits .xor .u32 IntKind.u32.max (x : Int) = ((4294967295 - x : Nat) : Int) := by
  have e : IntKind.u32.max = ((4294967295 : Nat) : Int) := by decide
  rw [e, u32_xor_nat _ _ (by decide) h]
  congr 1
  apply Nat.eq_of_testBit_eq
  intro i
  have h1 : (4294967295 - x) = 2 ^ 32 - (x + 1) := by omega
  have h2 : (4294967295 : Nat) = 2 ^ 32 - 1 := by decide
  rw [h1, Nat.testBit_xor, Nat.testBit_two_pow_sub_succ h, h2, Nat.testBit_two_pow_sub_one]
  by_cases hi : i < 32
  · simp [hi]
  · have h3 : 2 ^ 32 ≤ 2 ^ i := Nat.pow_le_pow_right (by decide) (by omega)
    have : x.testBit i = false := Nat.testBit_lt_two_pow (Nat.lt_of_lt_of_le h h3)
    simp [hi, this]
def Row39 (w : World) (B : Nat) : Prop := w.heap[B]? = some (.cells (tab 16) 39 (0, 0))
set_option maxHeartbeats 400000 in
theorem sum_any (v : Value) (ss : List ByteArray) (w : World) (hv : Strs w v ss) (hl : ss.length ≤ maxLen) (hs : ∀ (i : Nat) (s : ByteArray), ss[i]? = some s → s.size ≤ maxLen) :
    Calls Try.prog 10 #[v] w fun e w' => e = .returned (.int .u32 (4294967295 - M.feed 4294967295 (cat ss) : Nat)) ∧ Below w.heap.size w w' := by
  obtain ⟨A, cap, rfl, hc⟩ := hv
  unfold maxLen at hl
  go_enter Try.func10, Try.ntmps10
  go_wp2_with (go_at_call 18; refine (halves_any _).mono ?_; rintro e w1 ⟨rfl, hb1⟩; have hst := run_storeCells_new (P := Try.prog) w1 39 #[Value.int IntKind.u32 0, Value.int IntKind.u32 0, Value.int IntKind.u32 0, Value.int IntKind.u32 0, Value.int IntKind.u32 0, Value.int IntKind.u32 0, Value.int IntKind.u32 0, Value.int IntKind.u32 0, Value.int IntKind.u32 0, Value.int IntKind.u32 0, Value.int IntKind.u32 0, Value.int IntKind.u32 0, Value.int IntKind.u32 0, Value.int IntKind.u32 0, Value.int IntKind.u32 0, Value.int IntKind.u32 0] (tab 16) tab_info (by rfl) tab_one; have hsz := tab_size 16)
  clear hst hsz
  have hrow : Row39 (w1.alloc (.cells (tab 16) 39)) w1.heap.size := heap_alloc_last _ _
  have hbw : Below w.heap.size w (w1.alloc (.cells (tab 16) 39)) := hb1.alloc hb1.size _
  have hlt : w.heap.size ≤ w1.heap.size := hb1.size
  have hlt' : w1.heap.size < (w1.alloc (.cells (tab 16) 39)).heap.size := by simp
  generalize (w1.alloc (.cells (tab 16) 39)) = w2 at *
  generalize w1.heap.size = L at *
  clear hb1
  go_loopw [4, 10] (fun r i wr => ∃ k : Nat, k ≤ ss.length ∧ i = .int .i64 k ∧ r = .int .u32 (M.feed 4294967295 (cat (ss.take k)) : Nat) ∧ Below w.heap.size w wr ∧ Row39 wr L ∧ L < wr.heap.size) (fun _ i _ => ss.length - (intOf i).toNat)
  case atStart => exact ⟨0, by omega, rfl, rfl, hbw, hrow, hlt'⟩
  case round =>
    obtain ⟨k, hk, rfl, rfl, hb, hr, hL⟩ := hrel
    by_cases hlt : k < ss.length
    · obtain ⟨s, hsk⟩ : ∃ s, ss[k]? = some s := ⟨_, List.getElem?_eq_getElem hlt⟩
      obtain ⟨b, off, rfl, hbb, hcell⟩ := hc k s hsk
      have hcw : wr.cell? ⟨b, off + k, none⟩ = some (.string s) := (hb.cell (p := ⟨b, off + k, none⟩) hbb).trans hcell
      have hx := M.feed_lt (cat (ss.take k)) 4294967295 (by decide)
      have HS : Hid (M.feed 4294967295 (cat (ss.take (k + 1))) = M.feed (M.feed 4294967295 (cat (ss.take k))) s.data.toList) := by
        rw [cat_snoc ss k s hsk, M.feed_append]; rfl
      have hsz := hs k s hsk
      generalize M.feed 4294967295 (cat (ss.take k)) = x0 at *
      clear hc hcell hbw hrow hlt' hs hsk
      go_wp2_with (first | (refine wpList_load_row rfl 39 _ rfl L rfl 39 (tab 16) (0, 0) _ hr Try.underlying39 rfl tab_info ?_) | (go_at_call 19; refine (feed_any _ hx _ _ hsz).mono ?_; rintro e w3 ⟨rfl, hb3⟩))
      go_roundw
      case rel => exact ⟨k + 1, by omega, by go_num, by rw [HS.out], hb.trans (hb3.mono hb.size), (hb3.block _ hL).trans hr, Nat.lt_of_lt_of_le hL hb3.size⟩
      case measure => simp [intOf]; omega
    · have : k = ss.length := by omega
      subst this
      have hfl := M.feed_lt (cat ss) 4294967295 (by decide)
      rw [List.take_length]
      go_wp2
      go_ret
      exact ⟨ret_int (compl _ hfl), hb⟩
end Go.Proofs.Ytbondapdjolmiaa
