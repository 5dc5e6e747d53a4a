import Derived.Test.YtbondapdjolmiaaP
import Derived.Lib.ConvBytes
import Derived.Deep.RegionHeld3
import Derived.Test.YtbondapdjolmiaaL
namespace Go.Proofs.Ytbondapdjolmiaa
open Go.RowKit
/-- the text with bits of the first i of four bytes side by side changed -/
def chg (l : List UInt8) (k b i : Nat) : List UInt8 := (List.range l.length).map fun j => if k ≤ j ∧ j < k + i then l.getD j 0 ^^^ UInt8.ofNat (b / 256 ^ (j - k) % 256) else l.getD j 0
structure Row (w : World) (L : Nat) (l : List UInt8) : Prop where
  lt : L < w.heap.size
  cell : ∀ j, j < l.length → w.cell? ⟨L, j, none⟩ = some (.int .u8 ((l.getD j 0).toNat : Int))
  free : ∀ j, j < l.length → w.frozen? ⟨L, j, none⟩ = false
theorem chg_len (l : List UInt8) (k b i : Nat) : (chg l k b i).length = l.length := by simp [chg]
theorem chg_zero (l : List UInt8) (k b : Nat) : chg l k b 0 = l := by
  apply List.ext_getElem
  · simp [chg]
  · intro j h1 h2
    have : ¬ (k ≤ j ∧ j < k) := by omega
    simp [chg, this, List.getD, List.getElem?_eq_getElem h2]
theorem chg_get (l : List UInt8) (k b i j : Nat) (h : j < l.length) : (chg l k b i).getD j 0 = if k ≤ j ∧ j < k + i then l.getD j 0 ^^^ UInt8.ofNat (b / 256 ^ (j - k) % 256) else l.getD j 0 := by
  have h' : j < (chg l k b i).length := by rw [chg_len]; exact h
  rw [List.getD_eq_getElem?_getD, List.getElem?_eq_getElem h']
  simp [chg]
theorem chg_step (l : List UInt8) (k b i j : Nat) (h : j < l.length) (hj : j ≠ k + i) : (chg l k b (i + 1)).getD j 0 = (chg l k b i).getD j 0 := by
  rw [chg_get _ _ _ _ _ h, chg_get _ _ _ _ _ h]
  by_cases a : k ≤ j ∧ j < k + i
  · rw [if_pos a, if_pos (by omega)]
  · rw [if_neg a, if_neg (by omega)]
theorem chg_here (l : List UInt8) (k b i : Nat) (h : k + i < l.length) : (chg l k b (i + 1)).getD (k + i) 0 = (chg l k b i).getD (k + i) 0 ^^^ UInt8.ofNat (b / 256 ^ i % 256) := by
  rw [chg_get _ _ _ _ _ h, chg_get _ _ _ _ _ h, if_pos (by omega), if_neg (by omega), show k + i - k = i by omega]
theorem Row.step {w : World} {L : Nat} {l : List UInt8} {k b i : Nat} (h : Row w L (chg l k b i)) (hi : k + i < l.length) (v : Int)
    (hv : v = ((((chg l k b i).getD (k + i) 0) ^^^ UInt8.ofNat (b / 256 ^ i % 256)).toNat : Int)) :
    Row (w.setCell ⟨L, k + i, none⟩ (.int .u8 v)) L (chg l k b (i + 1)) := by
  have hlen : ∀ n, (chg l k b n).length = l.length := chg_len l k b
  refine ⟨by simpa [World.setCell] using h.lt, fun j hj => ?_, fun j hj => ?_⟩
  · rw [hlen] at hj
    by_cases e : j = k + i
    · subst e
      rw [chg_here _ _ _ _ hi, ← hv]
      have := h.cell (k + i) (by rw [hlen]; exact hj)
      exact World.cell?_setCell_same' w ⟨L, k + i, none⟩ _ (by rw [this]; rfl)
    · rw [chg_step _ _ _ _ _ hj e, World.cell?_setCell_other w _ _ _ (fun he => e (by injection he with _ h2; exact h2.symm))]
      exact h.cell j (by rw [hlen]; exact hj)
  · rw [hlen] at hj
    rw [World.frozen?_setCell]
    exact h.free j (by rw [hlen]; exact hj)
theorem getD_of (l : List UInt8) (j : Nat) (h : j < l.length) : l.getD j 0 = l[j] := by simp [List.getD, List.getElem?_eq_getElem h]
theorem chg_split (l : List UInt8) (k b : Nat) (h : k + 3 < l.length) :
    chg l k b 4 = l.take k ++ [l.getD k 0 ^^^ UInt8.ofNat (b % 256), l.getD (k + 1) 0 ^^^ UInt8.ofNat (b / 256 % 256), l.getD (k + 2) 0 ^^^ UInt8.ofNat (b / 65536 % 256), l.getD (k + 3) 0 ^^^ UInt8.ofNat (b / 16777216 % 256)] ++ l.drop (k + 4) := by
  apply List.ext_getElem
  · simp [chg]; omega
  · intro j h1 h2
    have hj : j < l.length := by rw [chg_len] at h1; exact h1
    have e := chg_get l k b 4 j hj
    rw [getD_of _ _ h1] at e
    rw [e]
    by_cases a : j < k
    · simp only [List.append_assoc]
      rw [if_neg (by omega), List.getElem_append_left (by simp; omega), getD_of _ _ hj]
      simp
    · by_cases a2 : j < k + 4
      · simp only [List.append_assoc]
        rw [if_pos (by omega), List.getElem_append_right (by simp; omega)]
        have hd : j = k ∨ j = k + 1 ∨ j = k + 2 ∨ j = k + 3 := by omega
        have hm : min k l.length = k := by omega
        rcases hd with rfl | rfl | rfl | rfl <;> simp [List.length_take, hm]
      · rw [if_neg (by omega), List.getElem_append_right (by simp; omega), getD_of _ _ hj]
        simp [List.getElem_drop]
        congr 1
        omega
theorem same_split (l : List UInt8) (k : Nat) (h : k + 3 < l.length) :
    l = l.take k ++ [l.getD k 0, l.getD (k + 1) 0, l.getD (k + 2) 0, l.getD (k + 3) 0] ++ l.drop (k + 4) := by
  have := chg_split l k 0 h
  rw [show chg l k 0 4 = l from by
    apply List.ext_getElem
    · simp [chg]
    · intro j h1 h2
      have e := chg_get l k 0 4 j h2
      rw [getD_of _ _ h1, getD_of _ _ h2] at e
      rw [e]
      simp] at this
  simpa using this
theorem byte_toNat (x : UInt8) (p : Nat) (hp : p < 256) : (x ^^^ UInt8.ofNat p).toNat = x.toNat ^^^ p := by
  rw [UInt8.toNat_xor, UInt8.toNat_ofNat_of_lt' hp]
theorem chg_sum (l : List UInt8) (k b : Nat) (h : k + 3 < l.length) (hb : 0 < b) (hb2 : b < 4294967296) : M.crc (chg l k b 4) ≠ M.crc l := by
  intro e
  have f1 := M.feed_lt (chg l k b 4) 4294967295 (by decide)
  have f2 := M.feed_lt l 4294967295 (by decide)
  have e' : M.feed 4294967295 (chg l k b 4) = M.feed 4294967295 l := by unfold M.crc at e; omega
  rw [chg_split l k b h] at e'
  conv at e' => rhs; rw [same_split l k h]
  rw [M.feed_append, M.feed_append, M.feed_append, M.feed_append] at e'
  have hx := M.feed_lt (l.take k) 4294967295 (by decide)
  generalize M.feed 4294967295 (l.take k) = x at *
  have g := M.feed_inj _ _ _ (M.feed_lt _ _ hx) (M.feed_lt _ _ hx) e'
  have h0 : b % 256 < 256 := by omega
  have h1 : b / 256 % 256 < 256 := by omega
  have h2 : b / 65536 % 256 < 256 := by omega
  have h3 : b / 16777216 % 256 < 256 := by omega
  simp only [M.feed, List.foldl_cons, List.foldl_nil, byte_toNat _ _ h0, byte_toNat _ _ h1, byte_toNat _ _ h2, byte_toNat _ _ h3] at g
  have := M.parts x _ _ _ _ _ _ _ _ hx (UInt8.toNat_lt _) (UInt8.toNat_lt _) (UInt8.toNat_lt _) (UInt8.toNat_lt _) h0 h1 h2 h3 g
  omega
theorem strs_at (a : ByteArray) (b : Nat) (w : World) (hb : b < w.heap.size) (hc : w.cell? ⟨b, 0, none⟩ = some (.string a)) : Strs w (.slice (some ⟨b, 0, none⟩) 1 1) [a] := by
  refine ⟨_, 1, rfl, ?_⟩
  intro i s h
  refine ⟨b, 0, rfl, hb, ?_⟩
  match i, h with
  | 0, h => simp at h; subst h; exact hc
  | n + 1, h => simp at h
theorem one_size (a : ByteArray) (ha : a.size ≤ maxLen) : ∀ (i : Nat) (s : ByteArray), [a][i]? = some s → s.size ≤ maxLen := fun i s h => by
  match i, h with
  | 0, h => simp at h; subst h; exact ha
  | n + 1, h => simp at h
theorem sum_at (a : ByteArray) (b : Nat) (w : World) (hb : b < w.heap.size) (hc : w.cell? ⟨b, 0, none⟩ = some (.string a)) (ha : a.size ≤ maxLen) :
    Calls Try.prog 10 #[.slice (some ⟨b, 0, none⟩) 1 1] w fun e w' => e = .returned (.int .u32 (M.crc a.data.toList : Nat)) ∧ Below w.heap.size w w' :=
  (sum_any _ [a] _ (strs_at a b w hb hc) (by simp [maxLen]) (one_size a ha)).mono fun e w' ⟨he, hb⟩ => ⟨by rw [he]; simp [cat, M.crc], hb⟩
theorem is_at (f a : ByteArray) (b : Nat) (w : World) (hb : b < w.heap.size) (hc : w.cell? ⟨b, 0, none⟩ = some (.string a)) (ha : a.size ≤ maxLen) :
    Calls Try.prog 13 #[.string f, .slice (some ⟨b, 0, none⟩) 1 1] w fun e w' => e = .returned (.bool (f.toList == (figs (M.crc a.data.toList)).toList)) ∧ Below w.heap.size w w' :=
  (is_any f _ [a] _ (strs_at a b w hb hc) (by simp [maxLen]) (one_size a ha)).mono fun e w' ⟨he, hb⟩ => ⟨by rw [he]; simp [cat], hb⟩
theorem sum_atl (l : List UInt8) (b : Nat) (w : World) (hb : b < w.heap.size) (hc : w.cell? ⟨b, 0, none⟩ = some (.string ⟨l.toArray⟩)) (ha : (⟨l.toArray⟩ : ByteArray).size ≤ maxLen) :
    Calls Try.prog 10 #[.slice (some ⟨b, 0, none⟩) 1 1] w fun e w' => e = .returned (.int .u32 (M.crc l : Nat)) ∧ Below w.heap.size w w' := sum_at ⟨l.toArray⟩ b w hb hc ha
theorem is_atl (f : ByteArray) (l : List UInt8) (b : Nat) (w : World) (hb : b < w.heap.size) (hc : w.cell? ⟨b, 0, none⟩ = some (.string ⟨l.toArray⟩)) (ha : (⟨l.toArray⟩ : ByteArray).size ≤ maxLen) :
    Calls Try.prog 13 #[.string f, .slice (some ⟨b, 0, none⟩) 1 1] w fun e w' => e = .returned (.bool (f.toList == (figs (M.crc l)).toList)) ∧ Below w.heap.size w w' := is_at f ⟨l.toArray⟩ b w hb hc ha
theorem lt_below {w w' : World} {b : Nat} (h : Below w.heap.size w w') (hb : b < w.heap.size) : b < w'.heap.size := Nat.lt_of_lt_of_le hb h.size
theorem cell_below {w w' : World} {b o : Nat} {v : Value} (h : Below w.heap.size w w') (hb : b < w.heap.size) (hc : w.cell? ⟨b, o, none⟩ = some v) : w'.cell? ⟨b, o, none⟩ = some v := (h.cell (p := ⟨b, o, none⟩) hb).trans hc
theorem lt_here (w : World) (o : Obj) : w.heap.size < (w.alloc o).heap.size := by simp
theorem cell_here (w : World) (v : Value) (t : TypeId) : (w.alloc (.cells #[v] t)).cell? ⟨w.heap.size, 0, none⟩ = some v := by rw [World.cell?_alloc_at _ _ _ _ rfl]; rfl
theorem lt_drew {w : World} {b : Nat} (h : b < w.heap.size) : b < w.drew.heap.size := h
theorem cell_drew {w : World} {b o : Nat} {v : Value} (h : w.cell? ⟨b, o, none⟩ = some v) : w.drew.cell? ⟨b, o, none⟩ = some v := h
theorem lt_alloc {w : World} {b : Nat} {x : Obj} (h : b < w.heap.size) : b < (w.alloc x).heap.size := Nat.lt_trans h (lt_here w x)
theorem cell_alloc {w : World} {b o : Nat} {v : Value} {x : Obj} (hb : b < w.heap.size) (h : w.cell? ⟨b, o, none⟩ = some v) : (w.alloc x).cell? ⟨b, o, none⟩ = some v :=
  (World.cell?_alloc_past _ _ _ hb).trans h
theorem lt_here1 (w : World) (o o' : Obj) : w.heap.size + 1 < ((w.alloc o).alloc o').heap.size := by simp
theorem cell_here1 (w : World) (o : Obj) (v : Value) (t : TypeId) : ((w.alloc o).alloc (.cells #[v] t)).cell? ⟨w.heap.size + 1, 0, none⟩ = some v := by
  rw [World.cell?_alloc_at _ _ _ _ (by simp)]; rfl
theorem keep_alloc {w w' : World} {o : Obj} (h : Below w.heap.size w w') : Below w.heap.size w (w'.alloc o) := h.alloc h.size o
theorem keep_call {w w' w'' : World} (h : Below w.heap.size w w') (h2 : Below w'.heap.size w' w'') : Below w.heap.size w w'' := below2 h h2
theorem Row.made (w : World) (t : ByteArray) : Row (Lib.bytesWorld w 5 t) w.heap.size t.data.toList := by
  refine ⟨by rw [Lib.bytesWorld_size]; omega, fun j hj => Lib.bytesWorld_cell w 5 t j (by simpa using hj), fun j hj => ?_⟩
  have hs : j < (Lib.bytesCells w 5 t).size := by
    simp [Lib.bytesCells] at hj ⊢
    omega
  simp [World.frozen?, Lib.bytesWorld_at_new]
  intro h
  omega
theorem made_below (w : World) (t : ByteArray) : Below w.heap.size w (Lib.bytesWorld w 5 t) := by
  refine ⟨rfl, rfl, rfl, by rw [Lib.bytesWorld_size]; omega, fun j hj => Lib.bytesWorld_at_old w 5 t j hj⟩
theorem byte_xor (x : UInt8) (p : Nat) (hp : p < 256) : bits .xor .u8 (x.toNat : Int) (p : Int) = ((x ^^^ UInt8.ofNat p).toNat : Int) := by
  have h1 := x.toNat_lt
  rw [u8_xor_nat _ _ h1 hp, UInt8.toNat_xor, UInt8.toNat_ofNat_of_lt' hp]
set_option maxHeartbeats 1000000 in
theorem finds_any (t : ByteArray) (at_ : Int) (hat : (Lit.int .i64 at_).wf = true) (by_ : Nat) (hby : by_ < 4294967296) (ht : t.size ≤ maxLen) (w : World) :
    Calls Try.prog 6 #[.string t, .int .i64 at_, .int .u32 by_] w fun e w' => e = .returned (.bool true) ∧ Below w.heap.size w w' := by
  unfold maxLen at ht
  by_cases h1 : t.size < 4
  · go_enter Try.func6, Try.ntmps6
    go_wp2_with fail
    refine (alive_any _).mono ?_
    rintro e w1 ⟨rfl, hb1⟩
    go_wp2_with fail
    go_ret
    exact ⟨rfl, hb1⟩
  · by_cases h2 : 5000 < t.size
    · go_enter Try.func6, Try.ntmps6
      go_wp2_with fail
      refine (alive_any _).mono ?_
      rintro e w1 ⟨rfl, hb1⟩
      go_wp2_with fail
      go_ret
      exact ⟨rfl, hb1⟩
    · by_cases h3 : by_ = 0
      · subst h3
        go_enter Try.func6, Try.ntmps6
        go_wp2_with fail
        refine (alive_any _).mono ?_
        rintro e w1 ⟨rfl, hb1⟩
        go_wp2_with fail
        go_ret
        exact ⟨rfl, hb1⟩
      · have hb0 : ((by_ : Int) == 0) = false := by simp; omega
        have hpos : 0 < by_ := by omega
        clear h3
        obtain ⟨m, hm⟩ : ∃ m : Nat, IntKind.u64.wrap at_ = (m : Int) := ⟨(IntKind.u64.wrap at_).toNat, by simp [IntKind.wrap, IntKind.bits, IntKind.signed]; omega⟩
        obtain ⟨k, hk, hkt⟩ : ∃ k : Nat, (m : Int).tmod ((t.size : Int) - 3) = (k : Int) ∧ k + 3 < t.size := by
          have hpos3 : 0 < t.size - 3 := by omega
          refine ⟨m % (t.size - 3), ?_, by have := Nat.mod_lt m hpos3; omega⟩
          rw [show (t.size : Int) - 3 = ((t.size - 3 : Nat) : Int) by omega]
          rfl
        go_enter Try.func6, Try.ntmps6
        go_wp2_with fail
        refine (alive_any _).mono ?_
        rintro e w1 ⟨rfl, hb1⟩
        have hcv := Lib.run_convert_string_bytes (P := Try.prog) w1 9 36 5 t Try.underlying9 Try.underlying36 Try.underlying5
        go_wp2_with fail
        generalize grownCap w1 t.size 0 5 = cap
        have hrow : Row (Lib.bytesWorld w1 5 t) w1.heap.size t.data.toList := Row.made w1 t
        have hbw : Below w.heap.size w (Lib.bytesWorld w1 5 t) := below2 hb1 (made_below w1 t)
        have hL : w.heap.size ≤ w1.heap.size := hb1.size
        generalize Lib.bytesWorld w1 5 t = w2 at *
        generalize w1.heap.size = L at *
        clear hcv
        go_loopw [34] (fun i wr => ∃ n : Nat, n ≤ 4 ∧ i = .int .i64 n ∧ Row wr L (chg t.data.toList k by_ n) ∧ Below w.heap.size w wr) (fun i _ => 4 - (intOf i).toNat)
        case atStart => exact ⟨0, by omega, rfl, by rw [chg_zero]; exact hrow, hbw⟩
        case round =>
          obtain ⟨n, hn, rfl, hr, hb⟩ := hrel
          have hcases : n = 0 ∨ n = 1 ∨ n = 2 ∨ n = 3 ∨ n = 4 := by omega
          rcases hcases with rfl | rfl | rfl | rfl | rfl
          · have hc := hr.cell (k) (by rw [chg_len]; simp; omega)
            have hf := hr.free (k) (by rw [chg_len]; simp; omega)
            have hxx := (chg t.data.toList k by_ 0).getD (k) 0
            have hx := ((chg t.data.toList k by_ 0).getD (k) 0).toNat_lt
            have HV := Lib.hid (byte_xor ((chg t.data.toList k by_ 0).getD (k) 0) (by_ % 256) (by omega))
            have HR := Lib.hid hr
            have HE : Hid (by_ % 256 = by_ / 256 ^ 0 % 256) := by show _ = _; omega
            clear hr hxx
            generalize hy : ((chg t.data.toList k by_ 0).getD (k) 0) = y at *
            have HY := Lib.hid hy
            clear hy
            go_wp2_with fail
            go_roundw
            case rel =>
              refine ⟨1, by omega, rfl, HR.out.step (i := 0) (by simp; omega) _ ?_, hb.setCell hL _⟩
              rw [show (k + 0) = k from rfl, HY.out, ← HE.out, ← HV.out]
              rfl
            case measure => simp [intOf]
          · have hc := hr.cell (k + 1) (by rw [chg_len]; simp; omega)
            have hf := hr.free (k + 1) (by rw [chg_len]; simp; omega)
            have hxx := (chg t.data.toList k by_ 1).getD (k + 1) 0
            have hx := ((chg t.data.toList k by_ 1).getD (k + 1) 0).toNat_lt
            have HV := Lib.hid (byte_xor ((chg t.data.toList k by_ 1).getD (k + 1) 0) (by_ / 256 % 256) (by omega))
            have HR := Lib.hid hr
            have HE : Hid (by_ / 256 % 256 = by_ / 256 ^ 1 % 256) := by show _ = _; omega
            clear hr hxx
            generalize hy : ((chg t.data.toList k by_ 1).getD (k + 1) 0) = y at *
            have HY := Lib.hid hy
            clear hy
            go_wp2_with fail
            go_roundw
            case rel =>
              refine ⟨2, by omega, rfl, HR.out.step (i := 1) (by simp; omega) _ ?_, hb.setCell hL _⟩
              rw [show (k + 1) = k + 1 from rfl, HY.out, ← HE.out, ← HV.out]
              rfl
            case measure => simp [intOf]
          · have hc := hr.cell (k + 2) (by rw [chg_len]; simp; omega)
            have hf := hr.free (k + 2) (by rw [chg_len]; simp; omega)
            have hxx := (chg t.data.toList k by_ 2).getD (k + 2) 0
            have hx := ((chg t.data.toList k by_ 2).getD (k + 2) 0).toNat_lt
            have HV := Lib.hid (byte_xor ((chg t.data.toList k by_ 2).getD (k + 2) 0) (by_ / 65536 % 256) (by omega))
            have HR := Lib.hid hr
            have HE : Hid (by_ / 65536 % 256 = by_ / 256 ^ 2 % 256) := by show _ = _; omega
            clear hr hxx
            generalize hy : ((chg t.data.toList k by_ 2).getD (k + 2) 0) = y at *
            have HY := Lib.hid hy
            clear hy
            go_wp2_with fail
            go_roundw
            case rel =>
              refine ⟨3, by omega, rfl, HR.out.step (i := 2) (by simp; omega) _ ?_, hb.setCell hL _⟩
              rw [show (k + 2) = k + 2 from rfl, HY.out, ← HE.out, ← HV.out]
              rfl
            case measure => simp [intOf]
          · have hc := hr.cell (k + 3) (by rw [chg_len]; simp; omega)
            have hf := hr.free (k + 3) (by rw [chg_len]; simp; omega)
            have hxx := (chg t.data.toList k by_ 3).getD (k + 3) 0
            have hx := ((chg t.data.toList k by_ 3).getD (k + 3) 0).toNat_lt
            have HV := Lib.hid (byte_xor ((chg t.data.toList k by_ 3).getD (k + 3) 0) (by_ / 16777216) (by omega))
            have HR := Lib.hid hr
            have HE : Hid (by_ / 16777216 = by_ / 256 ^ 3 % 256) := by show _ = _; omega
            clear hr hxx
            generalize hy : ((chg t.data.toList k by_ 3).getD (k + 3) 0) = y at *
            have HY := Lib.hid hy
            clear hy
            go_wp2_with fail
            go_roundw
            case rel =>
              refine ⟨4, by omega, rfl, HR.out.step (i := 3) (by simp; omega) _ ?_, hb.setCell hL _⟩
              rw [show (k + 3) = k + 3 from rfl, HY.out, ← HE.out, ← HV.out]
              rfl
            case measure => simp [intOf]
          · have hlen : (chg t.data.toList k by_ 4).length = t.size := by rw [chg_len]; simp
            have hcs : (⟨(chg t.data.toList k by_ 4).toArray⟩ : ByteArray).size ≤ maxLen := by
              show (chg t.data.toList k by_ 4).toArray.size ≤ maxLen
              unfold maxLen
              simp [chg_len]; omega
            have hne : M.crc (chg t.data.toList k by_ 4) ≠ M.crc t.data.toList := chg_sum t.data.toList k by_ (by simp; omega) hpos hby
            have hcvt : ∀ wx, Below wr.heap.size wr wx → (convert 36 9 (.slice (some ⟨L, 0, none⟩) t.size cap)).run Try.prog wx = .ok (.string ⟨(chg t.data.toList k by_ 4).toArray⟩) wx := by
              intro wx hbx
              rw [← hlen]
              refine run_convert_bytes_back wx 36 9 5 ⟨L, 0, none⟩ cap _ Try.underlying36 Try.underlying5 Try.underlying9 (fun j hj => ?_)
              rw [WideShapes.add_plain, Nat.zero_add, hbx.cell (p := ⟨L, j, none⟩) hr.lt, hr.cell j hj]
              simp [List.getD, List.getElem?_eq_getElem hj]
            generalize chg t.data.toList k by_ 4 = l' at *
            clear hn hr hlen hrow hbw hpos hby hm hk hkt
            have HC := Lib.hid hcvt
            clear hcvt
            have hts : t.size ≤ maxLen := ht
            have hn1 : ((M.crc l' : Nat) : Int) ≠ ((M.crc t.data.toList : Nat) : Int) := by omega
            have hn2 : (((M.crc l' : Nat) : Int) == ((M.crc t.data.toList : Nat) : Int)) = false := beq_eq_false_iff_ne.2 hn1
            have hn3 : ((figs (M.crc t.data.toList)).toList == (figs (M.crc l')).toList) = false := by
              rw [figs_beq _ _ (M.crc_lt _) (M.crc_lt _)]
              exact beq_eq_false_iff_ne.2 fun e => hn1 e.symm
            have hn4 : (((M.crc l' : Nat) : Int) != ((M.crc t.data.toList : Nat) : Int)) = true := by rw [bne, hn2]; rfl
            clear hne hn1
            go_wp2_with fail
            have hSS : ∀ w', Below wr.heap.size wr w' → (Below wr.heap.size wr w' ∧ (convert 36 9 (.slice (some ⟨L, 0, none⟩) t.size cap)).run Try.prog w' = .ok (.string ⟨l'.toArray⟩) w') := fun w' B => ⟨B, HC.out w' B⟩
            have HS := Lib.hid hSS
            clear hSS
            go_region_held3 (fun w' => Below wr.heap.size wr w' ∧ (convert 36 9 (.slice (some ⟨L, 0, none⟩) t.size cap)).run Try.prog w' = .ok (.string ⟨l'.toArray⟩) w') ((refine HS.out _ ?_; repeat (first | exact Below.refl _ _ | assumption | (refine Below.drew ?_) | (refine keep_alloc ?_) | (refine keep_call ?_ (by assumption))))) (first | (go_at_call 14; refine (figures_any _ (M.crc_lt _) _).mono ?_; rintro e w5 ⟨rfl, hb5⟩) | (go_at_call 10; refine (sum_at t _ _ ?_ ?_ hts).mono ?_; (focus (repeat (with_reducible (first | exact lt_here _ _ | exact cell_here _ _ _ | exact lt_here1 _ _ _ | exact cell_here1 _ _ _ _ | (refine lt_drew ?_) | (refine cell_drew ?_) | (refine lt_alloc ?_) | (refine cell_alloc ?_ ?_) | (refine lt_below (by assumption) ?_) | (refine cell_below (by assumption) ?_ ?_))))); (focus (repeat (with_reducible (first | exact lt_here _ _ | exact cell_here _ _ _ | exact lt_here1 _ _ _ | exact cell_here1 _ _ _ _ | (refine lt_drew ?_) | (refine cell_drew ?_) | (refine lt_alloc ?_) | (refine cell_alloc ?_ ?_) | (refine lt_below (by assumption) ?_) | (refine cell_below (by assumption) ?_ ?_))))); rintro e w5 ⟨rfl, hb5⟩) | (go_at_call 10; refine (sum_atl l' _ _ ?_ ?_ hcs).mono ?_; (focus (repeat (with_reducible (first | exact lt_here _ _ | exact cell_here _ _ _ | exact lt_here1 _ _ _ | exact cell_here1 _ _ _ _ | (refine lt_drew ?_) | (refine cell_drew ?_) | (refine lt_alloc ?_) | (refine cell_alloc ?_ ?_) | (refine lt_below (by assumption) ?_) | (refine cell_below (by assumption) ?_ ?_))))); (focus (repeat (with_reducible (first | exact lt_here _ _ | exact cell_here _ _ _ | exact lt_here1 _ _ _ | exact cell_here1 _ _ _ _ | (refine lt_drew ?_) | (refine cell_drew ?_) | (refine lt_alloc ?_) | (refine cell_alloc ?_ ?_) | (refine lt_below (by assumption) ?_) | (refine cell_below (by assumption) ?_ ?_))))); rintro e w5 ⟨rfl, hb5⟩) | (go_at_call 13; refine (is_atl _ l' _ _ ?_ ?_ hcs).mono ?_; (focus (repeat (with_reducible (first | exact lt_here _ _ | exact cell_here _ _ _ | exact lt_here1 _ _ _ | exact cell_here1 _ _ _ _ | (refine lt_drew ?_) | (refine cell_drew ?_) | (refine lt_alloc ?_) | (refine cell_alloc ?_ ?_) | (refine lt_below (by assumption) ?_) | (refine cell_below (by assumption) ?_ ?_))))); (focus (repeat (with_reducible (first | exact lt_here _ _ | exact cell_here _ _ _ | exact lt_here1 _ _ _ | exact cell_here1 _ _ _ _ | (refine lt_drew ?_) | (refine cell_drew ?_) | (refine lt_alloc ?_) | (refine cell_alloc ?_ ?_) | (refine lt_below (by assumption) ?_) | (refine cell_below (by assumption) ?_ ?_))))); rintro e w5 ⟨rfl, hb5⟩))
            all_goals go_wp2_with fail
            all_goals go_ret
            all_goals (refine ⟨rfl, hb.trans (Below.mono ?_ hb.size)⟩; repeat (first | exact Below.refl _ _ | assumption | (refine Below.drew ?_) | (refine keep_alloc ?_) | (refine keep_call ?_ (by assumption))))
theorem finds_walk (t : ByteArray) (a b : Int) (w : World) (ht : t.size ≤ maxLen) (ha : (Lit.int .i64 a).wf = true) (hb : (Lit.int .u32 b).wf = true) :
    Calls Try.prog 6 #[.string t, .int .i64 a, .int .u32 b] w fun e w' => e = .returned (.bool true) ∧ Below w.heap.size w w' := by
  obtain ⟨n, rfl, hn⟩ := u32_of hb
  exact finds_any t a ha n hn ht w
end Go.Proofs.Ytbondapdjolmiaa
