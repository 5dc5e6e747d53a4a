/- Texts put together: CA, CP, LM, AB, DA, DB, DC, KM. -/
import Derived.Lib.AtoiAll
import Derived.Lib.ItoaLen
set_option linter.unusedVariables false
namespace Go.Proofs.YtgaooalckjjplaaGreatDoor.Sm.M
def st (x : Nat) : Nat := if x / 2147483648 = 1 then (x * 2 % 4294967296) ^^^ 79764919 else x * 2 % 4294967296
def stn : Nat → Nat → Nat
  | 0, x => x
  | n + 1, x => stn n (st x)
def feed1 (x c : Nat) : Nat := stn 8 (x ^^^ (c * 16777216))
def feed (x : Nat) (l : List UInt8) : Nat := l.foldl (fun x c => feed1 x c.toNat) x
theorem st_lt (x : Nat) : st x < 4294967296 := by
  unfold st
  split
  · exact Nat.xor_lt_two_pow (n := 32) (Nat.mod_lt _ (by decide)) (by decide)
  · exact Nat.mod_lt _ (by decide)
theorem stn_lt (n x : Nat) (h : x < 4294967296) : stn n x < 4294967296 := by
  induction n generalizing x with
  | zero => exact h
  | succ n ih => exact ih _ (st_lt x)
theorem stn_succ (n x : Nat) : stn (n + 1) x = st (stn n x) := by
  induction n generalizing x with
  | zero => rfl
  | succ n ih => show stn (n + 1) (st x) = st (stn n (st x)); exact ih _
theorem feed1_lt (x c : Nat) (h : x < 4294967296) (hc : c < 256) : feed1 x c < 4294967296 :=
  stn_lt _ _ (Nat.xor_lt_two_pow (n := 32) h (by omega))
theorem feed_lt (l : List UInt8) (x : Nat) (h : x < 4294967296) : feed x l < 4294967296 := by
  induction l generalizing x with
  | nil => exact h
  | cons c l ih => exact ih _ (feed1_lt x _ h c.toNat_lt)
theorem feed_append (x : Nat) (l r : List UInt8) : feed x (l ++ r) = feed (feed x l) r := by
  simp [feed, List.foldl_append]
theorem feed_snoc (x : Nat) (l : List UInt8) (c : UInt8) : feed x (l ++ [c]) = feed1 (feed x l) c.toNat := by
  simp [feed, List.foldl_append]
/-- linear -/
theorem tb (x i : Nat) (h : x < 4294967296) : (x * 2 % 4294967296).testBit i = (decide (i < 32) && decide (0 < i) && x.testBit (i - 1)) := by
  have : (x * 2 % 4294967296) = (x <<< 1) % 2 ^ 32 := by rw [Nat.shiftLeft_eq]
  rw [this, Nat.testBit_mod_two_pow, Nat.testBit_shiftLeft]
  by_cases h1 : i < 32 <;> by_cases h2 : 0 < i <;> simp [h1, h2] <;> omega
theorem top (x : Nat) (h : x < 4294967296) : (x / 2147483648 = 1) ↔ x.testBit 31 = true := by
  rw [Nat.testBit_eq_decide_div_mod_eq, show 2 ^ 31 = 2147483648 from rfl]
  simp; omega
theorem shl_xor (x y : Nat) (hx : x < 4294967296) (hy : y < 4294967296) : (x ^^^ y) * 2 % 4294967296 = (x * 2 % 4294967296) ^^^ (y * 2 % 4294967296) := by
  apply Nat.eq_of_testBit_eq
  intro i
  rw [tb _ _ (Nat.xor_lt_two_pow (n := 32) hx hy), Nat.testBit_xor, Nat.testBit_xor, tb _ _ hx, tb _ _ hy]
  cases decide (i < 32) <;> cases decide (0 < i) <;> simp
theorem st_xor (x y : Nat) (hx : x < 4294967296) (hy : y < 4294967296) : st (x ^^^ y) = st x ^^^ st y := by
  have hxy : x ^^^ y < 4294967296 := Nat.xor_lt_two_pow (n := 32) hx hy
  unfold st
  rw [shl_xor x y hx hy]
  simp only [top x hx, top y hy, top _ hxy, Nat.testBit_xor]
  generalize x * 2 % 4294967296 = a
  generalize y * 2 % 4294967296 = b
  generalize 79764919 = p
  cases x.testBit 31 <;> cases y.testBit 31 <;> simp
  · rw [Nat.xor_assoc]
  · rw [Nat.xor_assoc, Nat.xor_assoc, Nat.xor_comm b p]
  · rw [Nat.xor_assoc, Nat.xor_comm p, Nat.xor_assoc, Nat.xor_self, Nat.xor_zero]
theorem stn_xor (n x y : Nat) (hx : x < 4294967296) (hy : y < 4294967296) : stn n (x ^^^ y) = stn n x ^^^ stn n y := by
  induction n generalizing x y with
  | zero => rfl
  | succ n ih => show stn n (st _) = _; rw [st_xor x y hx hy, ih _ _ (st_lt x) (st_lt y)]; rfl
theorem xor_eq_zero {a b : Nat} (h : a ^^^ b = 0) : a = b := by
  have : (a ^^^ b) ^^^ b = b := by rw [h]; simp
  rwa [Nat.xor_assoc, Nat.xor_self, Nat.xor_zero] at this
theorem st_zero (x : Nat) (hx : x < 4294967296) (h : st x = 0) : x = 0 := by
  unfold st at h
  split at h
  · have h0 := congrArg (fun n => n.testBit 0) h
    simp only [Nat.testBit_xor, tb x 0 hx] at h0
    simp at h0
  · omega
theorem stn_zero (n x : Nat) (hx : x < 4294967296) (h : stn n x = 0) : x = 0 := by
  induction n generalizing x with
  | zero => exact h
  | succ n ih => exact st_zero x hx (ih _ (st_lt x) h)
theorem stn_inj (n x y : Nat) (hx : x < 4294967296) (hy : y < 4294967296) (h : stn n x = stn n y) : x = y := by
  have h' : stn n (x ^^^ y) = 0 := by rw [stn_xor n x y hx hy, h, Nat.xor_self]
  exact xor_eq_zero (stn_zero n _ (Nat.xor_lt_two_pow (n := 32) hx hy) h')
theorem st_low (x : Nat) (h : x < 2147483648) : st x = x * 2 := by
  unfold st; rw [if_neg (by omega)]; omega
theorem stn_low (n x : Nat) (h : x * 2 ^ n < 4294967296) : stn n x = x * 2 ^ n := by
  induction n generalizing x with
  | zero => simp [stn]
  | succ n ih =>
    have e : x * 2 ^ (n + 1) = x * 2 * 2 ^ n := by rw [Nat.pow_succ, Nat.mul_comm (2 ^ n) 2, Nat.mul_assoc]
    have hx : x < 2147483648 := by
      have := Nat.one_le_two_pow (n := n)
      have h2 : x * 2 * 1 ≤ x * 2 * 2 ^ n := Nat.mul_le_mul_left _ this
      omega
    show stn n (st x) = _
    rw [st_low x hx, ih _ (by rw [← e]; exact h), e]
/-- four bits at once: what the table does -/
theorem four (x : Nat) (hx : x < 4294967296) : stn 4 x = (x * 16 % 4294967296) ^^^ stn 4 (x / 268435456 * 268435456) := by
  have e : x = (x / 268435456 * 268435456) ^^^ (x % 268435456) := by
    have h := Nat.two_pow_add_eq_or_of_lt (i := 28) (b := x % 268435456) (Nat.mod_lt _ (by decide)) (x / 268435456)
    have h2 : x / 268435456 * 268435456 ^^^ x % 268435456 = 2 ^ 28 * (x / 268435456) + x % 268435456 := by
      rw [Nat.mul_comm, show (268435456 : Nat) = 2 ^ 28 from rfl]
      apply Nat.eq_of_testBit_eq
      intro i
      rw [h, Nat.testBit_xor, Nat.testBit_or, Nat.testBit_two_pow_mul, Nat.testBit_mod_two_pow]
      by_cases hi : i < 28
      · simp [hi, Nat.not_le.2 hi]
      · simp [hi]
    omega
  have hh : x / 268435456 * 268435456 < 4294967296 := by omega
  have hl : x % 268435456 < 4294967296 := by omega
  conv => lhs; rw [e]
  rw [stn_xor 4 _ _ hh hl, stn_low 4 (x % 268435456) (by omega), Nat.xor_comm]
  congr 1
  omega
theorem eight (x : Nat) : stn 8 x = stn 4 (stn 4 x) := rfl
theorem m24 (c : Nat) (h : c < 256) : c * 16777216 < 4294967296 := by omega
theorem m16 (c : Nat) (h : c < 256) : c * 65536 < 16777216 := by omega
theorem m8 (c : Nat) (h : c < 256) : c * 256 < 65536 := by omega
theorem m16' (c : Nat) (h : c < 256) : c * 65536 < 4294967296 := by omega
theorem a1 (t : Nat) : t * 65536 * 256 = t * 16777216 := by omega
theorem a2 (t : Nat) : t * 256 * 256 = t * 65536 := by omega
theorem up (y : Nat) (h : y < 16777216) : y < 4294967296 := by omega
theorem up8 (y : Nat) (h : y < 256) : y < 65536 := by omega
theorem up16 (y : Nat) (h : y < 65536) : y < 16777216 := by omega
theorem low8 (y : Nat) (h : y < 16777216) : stn 8 y = y * 256 := by
  have e : y * 2 ^ 8 < 4294967296 := by omega
  exact stn_low 8 y e
theorem z24 (p y : Nat) (h : p * 16777216 = y) (hy : y < 16777216) : p = 0 ∧ y = 0 := by omega
theorem z16 (p y : Nat) (h : p * 65536 = y) (hy : y < 65536) : p = 0 ∧ y = 0 := by omega
theorem z8 (p y : Nat) (h : p * 256 = y) (hy : y < 256) : p = 0 ∧ y = 0 := by omega
theorem mul_xor (c p k : Nat) : (c ^^^ p) * 2 ^ k = (c * 2 ^ k) ^^^ (p * 2 ^ k) := by
  rw [← Nat.shiftLeft_eq, ← Nat.shiftLeft_eq, ← Nat.shiftLeft_eq, Nat.shiftLeft_xor_distrib]
theorem swap4 (x y a b : Nat) : (x ^^^ y) ^^^ (a ^^^ b) = (x ^^^ a) ^^^ (y ^^^ b) := by
  rw [Nat.xor_assoc, Nat.xor_assoc, ← Nat.xor_assoc y, Nat.xor_comm y a, Nat.xor_assoc]
theorem feed1_xor (x y c p : Nat) (hx : x < 4294967296) (hy : y < 4294967296) (hc : c < 256) (hp : p < 256) : feed1 (x ^^^ y) (c ^^^ p) = feed1 x c ^^^ feed1 y p := by
  unfold feed1
  rw [← stn_xor 8 _ _ (Nat.xor_lt_two_pow (n := 32) hx (m24 c hc)) (Nat.xor_lt_two_pow (n := 32) hy (m24 p hp))]
  refine congrArg (stn 8) ?_
  have e : (c ^^^ p) * 16777216 = (c * 16777216) ^^^ (p * 16777216) := mul_xor c p 24
  rw [e]
  exact swap4 x y _ _
theorem feed1_zero (p : Nat) : feed1 0 p = stn 8 (p * 16777216) := by unfold feed1; rw [Nat.zero_xor]
theorem move {a b c : Nat} (h : a ^^^ b = c) : a = c ^^^ b := by rw [← h, Nat.xor_assoc, Nat.xor_self, Nat.xor_zero]
/-- a register that four bytes of a pattern bring to nothing -/
theorem pattern (p q r t : Nat) (hp : p < 256) (hq : q < 256) (hr : r < 256) (ht : t < 256)
    (h : feed1 (feed1 (feed1 (feed1 0 p) q) r) t = 0) : p = 0 ∧ q = 0 ∧ r = 0 ∧ t = 0 := by
  have l1 : feed1 0 p < 4294967296 := feed1_lt _ _ (by decide) hp
  have l2 := feed1_lt _ _ l1 hq
  have l3 := feed1_lt _ _ l2 hr
  have x32 : ∀ a b : Nat, a < 4294967296 → b < 4294967296 → a ^^^ b < 4294967296 := fun a b ha hb => Nat.xor_lt_two_pow (n := 32) ha hb
  have e4 : feed1 (feed1 (feed1 0 p) q) r = t * 65536 * 256 := by
    rw [a1]
    exact xor_eq_zero (stn_zero 8 _ (x32 _ _ l3 (m24 t ht)) h)
  rw [← low8 _ (m16 t ht)] at e4
  have e3 := move (stn_inj 8 _ _ (x32 _ _ l2 (m24 r hr)) (m16' t ht) e4)
  have y2 : t * 256 ^^^ r * 65536 < 16777216 := Nat.xor_lt_two_pow (n := 24) (up16 _ (m8 t ht)) (m16 r hr)
  have e3' : feed1 (feed1 0 p) q = (t * 256 ^^^ r * 65536) * 256 := by
    have h1 : (t * 256 ^^^ r * 65536) * 256 = _ := mul_xor _ _ 8
    rw [h1, e3, a1 r, a2 t]
  rw [← low8 _ y2] at e3'
  have e2 := move (stn_inj 8 _ _ (x32 _ _ l1 (m24 q hq)) (up _ y2) e3')
  have y1 : (t ^^^ r * 256) ^^^ q * 65536 < 16777216 := Nat.xor_lt_two_pow (n := 24) (Nat.xor_lt_two_pow (n := 24) (up16 _ (up8 _ ht)) (up16 _ (m8 r hr))) (m16 q hq)
  have e2' : feed1 0 p = ((t ^^^ r * 256) ^^^ q * 65536) * 256 := by
    have h1 : ((t ^^^ r * 256) ^^^ q * 65536) * 256 = _ := mul_xor _ _ 8
    have h2 : (t ^^^ r * 256) * 256 = _ := mul_xor _ _ 8
    rw [h1, h2, e2, a1 q, a2 r]
  rw [feed1_zero, ← low8 _ y1] at e2'
  have e1 := stn_inj 8 _ _ (m24 p hp) (up _ y1) e2'
  obtain ⟨hp0, e0⟩ := z24 _ _ e1 y1
  obtain ⟨hq0, e00⟩ := z16 _ _ (xor_eq_zero e0).symm (Nat.xor_lt_two_pow (n := 16) (up8 _ ht) (m8 r hr))
  obtain ⟨hr0, ht0⟩ := z8 _ _ (xor_eq_zero e00).symm ht
  exact ⟨hp0, hq0, hr0, ht0⟩
/-- four bytes changed by a pattern: the registers part -/
theorem parts (x a b c d p q r t : Nat) (hx : x < 4294967296) (ha : a < 256) (hb : b < 256) (hc : c < 256) (hd : d < 256) (hp : p < 256) (hq : q < 256) (hr : r < 256) (ht : t < 256)
    (h : feed1 (feed1 (feed1 (feed1 x (a ^^^ p)) (b ^^^ q)) (c ^^^ r)) (d ^^^ t) = feed1 (feed1 (feed1 (feed1 x a) b) c) d) : p = 0 ∧ q = 0 ∧ r = 0 ∧ t = 0 := by
  refine pattern p q r t hp hq hr ht ?_
  have z1 := feed1_lt 0 p (by decide) hp
  have z2 := feed1_lt _ q z1 hq
  have z3 := feed1_lt _ r z2 hr
  have y1 := feed1_lt x a hx ha
  have y2 := feed1_lt _ b y1 hb
  have y3 := feed1_lt _ c y2 hc
  rw [show x = x ^^^ 0 from (Nat.xor_zero x).symm, feed1_xor x 0 a p hx (by decide) ha hp, feed1_xor _ _ b q y1 z1 hb hq, feed1_xor _ _ c r y2 z2 hc hr, feed1_xor _ _ d t y3 z3 hd ht] at h
  simp only [Nat.xor_zero] at h
  generalize feed1 (feed1 (feed1 (feed1 x a) b) c) d = u at h
  generalize feed1 (feed1 (feed1 (feed1 0 p) q) r) t = v at h
  have := congrArg (u ^^^ ·) h
  simpa [← Nat.xor_assoc] using this
end Go.Proofs.YtgaooalckjjplaaGreatDoor.Sm.M

namespace Go.Proofs.YtgaooalckjjplaaGreatDoor.Sm
def cat (ss : List ByteArray) : List UInt8 := ss.flatMap (·.data.toList)
theorem cat_snoc (ss : List ByteArray) (k : Nat) (s : ByteArray) (h : ss[k]? = some s) : cat (ss.take (k + 1)) = cat (ss.take k) ++ s.data.toList := by
  have hk : k < ss.length := by
    rcases Nat.lt_or_ge k ss.length with h' | h'
    · exact h'
    · rw [List.getElem?_eq_none h'] at h; cases h
  rw [List.take_succ_eq_append_getElem hk, cat, List.flatMap_append]
  have : ss[k] = s := by rw [List.getElem?_eq_getElem hk] at h; injection h
  rw [this]
  simp [cat]
def M.add (x : Nat) (l : List UInt8) : Nat := 4294967295 - M.feed (4294967295 - x) l
def M.crc (l : List UInt8) : Nat := 4294967295 - M.feed 4294967295 l
theorem M.crc_lt (l : List UInt8) : M.crc l < 4294967296 := by unfold M.crc; omega
theorem M.add_zero (l : List UInt8) : M.add 0 l = M.crc l := rfl
def dg (n : Nat) : UInt8 := if n < 10 then UInt8.ofNat (48 + n) else UInt8.ofNat (87 + n)
def figs (x : Nat) : ByteArray := ⟨#[dg (x / 268435456 % 16), dg (x / 16777216 % 16), dg (x / 1048576 % 16), dg (x / 65536 % 16), dg (x / 4096 % 16), dg (x / 256 % 16), dg (x / 16 % 16), dg (x % 16)]⟩
theorem figs_step (x k : Nat) (hk : k < 8) : (figs x).data.toList.drop (8 - (k + 1)) = dg (x / 16 ^ k % 16) :: (figs x).data.toList.drop (8 - k) := by
  match k, hk with
  | 0, _ | 1, _ | 2, _ | 3, _ | 4, _ | 5, _ | 6, _ | 7, _ => simp [figs]
  | n + 8, h => omega
def val (c : Nat) : Option Nat := if 48 ≤ c ∧ c ≤ 57 then some (c - 48) else if 97 ≤ c ∧ c ≤ 102 then some (c - 87) else none
def DIG : List UInt8 := [48, 49, 50, 51, 52, 53, 54, 55, 56, 57, 97, 98, 99, 100, 101, 102]
def ix (c : Nat) : Int := match val c with | some d => d | none => -1
theorem val_lt {c d : Nat} (h : val c = some d) : d < 16 := by
  unfold val at h
  split at h
  · injection h; omega
  · split at h
    · injection h; omega
    · cases h
def tk (acc : Nat) : List UInt8 → Option Nat
  | [] => some acc
  | c :: l => match val c.toNat with
    | none => none
    | some d => tk (acc * 16 % 4294967296 + d) l
def takes (l : List UInt8) : Option Nat := if l.length = 8 then tk 0 l else none
theorem dg_val : ∀ (c : Fin 256) (k : Fin 16), ((dg k.val).toNat = c.val) ↔ (val c.val = some k.val) := by decide +kernel

theorem val_dg {n : Nat} (h : n < 16) : val (dg n).toNat = some n := by
  exact (dg_val ⟨(dg n).toNat, (dg n).toNat_lt⟩ ⟨n, h⟩).1 rfl
theorem tk_dg (acc n : Nat) (l : List UInt8) (h : n < 16) : tk acc (dg n :: l) = tk (acc * 16 % 4294967296 + n) l := by
  rw [tk, val_dg h]
theorem takes_figs (x : Nat) (hx : x < 4294967296) : takes (figs x).data.toList = some x := by
  unfold takes
  rw [if_pos (show (figs x).data.toList.length = 8 from rfl)]
  have e : (figs x).data.toList = [dg (x / 268435456 % 16), dg (x / 16777216 % 16), dg (x / 1048576 % 16), dg (x / 65536 % 16), dg (x / 4096 % 16), dg (x / 256 % 16), dg (x / 16 % 16), dg (x % 16)] := rfl
  rw [e, tk_dg _ _ _ (by omega), tk_dg _ _ _ (by omega), tk_dg _ _ _ (by omega), tk_dg _ _ _ (by omega), tk_dg _ _ _ (by omega), tk_dg _ _ _ (by omega), tk_dg _ _ _ (by omega), tk_dg _ _ _ (by omega)]
  rw [show 0 * 16 % 4294967296 + x / 268435456 % 16 = x / 268435456 by omega, show x / 268435456 * 16 % 4294967296 + x / 16777216 % 16 = x / 16777216 by omega,
    show x / 16777216 * 16 % 4294967296 + x / 1048576 % 16 = x / 1048576 by omega, show x / 1048576 * 16 % 4294967296 + x / 65536 % 16 = x / 65536 by omega,
    show x / 65536 * 16 % 4294967296 + x / 4096 % 16 = x / 4096 by omega, show x / 4096 * 16 % 4294967296 + x / 256 % 16 = x / 256 by omega,
    show x / 256 * 16 % 4294967296 + x / 16 % 16 = x / 16 by omega, show x / 16 * 16 % 4294967296 + x % 16 = x by omega]
  rfl
end Go.Proofs.YtgaooalckjjplaaGreatDoor.Sm

namespace Go.Proofs.YtgaooalckjjplaaGreatDoor

/-- A line: number, place, bytes, whether it is ended. -/
structure Ln where
  no : Nat
  at_ : Nat
  text : List UInt8
  ended : Bool
deriving DecidableEq

def head (l : List UInt8) : List UInt8 := l.takeWhile (· != 10)
def nl (l : List UInt8) : Bool := l.contains 10
def used (l : List UInt8) : Nat := (head l).length + if nl l then 1 else 0
def linesF : Nat → Nat → Nat → List UInt8 → List Ln
  | 0, _, _, _ => []
  | f + 1, no, at_, l => if l = [] then [] else ⟨no, at_, head l, nl l⟩ :: linesF f (no + 1) (at_ + used l) (l.drop (used l))
def linesOn (no at_ : Nat) (l : List UInt8) : List Ln := linesF l.length no at_ l
def linesOf (l : List UInt8) : List Ln := linesOn 0 0 l
/-- What stands in the text for a line. -/
def Ln.bytes (x : Ln) : List UInt8 := x.text ++ if x.ended then [10] else []

theorem head_le (l : List UInt8) : (head l).length ≤ l.length := by
  unfold head
  induction l with
  | nil => simp
  | cons a t ih =>
    simp only [List.takeWhile_cons]
    split
    · simp; exact ih
    · simp
theorem head_split (l : List UInt8) : l = head l ++ (if nl l then [10] else []) ++ l.drop (used l) := by
  unfold used
  induction l with
  | nil => simp [head, nl]
  | cons a t ih =>
    by_cases h : a = 10
    · subst h; simp [head, nl]
    · have e1 : head (a :: t) = a :: head t := by simp [head, h]
      have e2 : nl (a :: t) = nl t := by simp [nl, Ne.symm h]
      rw [e1, e2]
      simp only [List.length_cons, List.cons_append]
      rw [show (head t).length + 1 + (if nl t = true then 1 else 0) = ((head t).length + if nl t = true then 1 else 0) + 1 by omega, List.drop_succ_cons]
      exact congrArg (a :: ·) ih
theorem used_le (l : List UInt8) : used l ≤ l.length := by
  have := congrArg List.length (head_split l)
  unfold used at this ⊢
  simp only [List.length_append, List.length_drop] at this
  have h1 : (if nl l = true then [(10 : UInt8)] else []).length = if nl l = true then 1 else 0 := by split <;> rfl
  rw [h1] at this
  omega
theorem used_pos (l : List UInt8) (h : l ≠ []) : 1 ≤ used l := by
  unfold used
  cases l with
  | nil => exact absurd rfl h
  | cons a t =>
    by_cases h : a = 10
    · subst h; simp [nl]
    · simp [head, h]; omega
theorem linesF_more : ∀ (f g no at_ : Nat) (l : List UInt8), l.length ≤ f → l.length ≤ g → linesF f no at_ l = linesF g no at_ l
  | 0, 0, _, _, _, _, _ => rfl
  | 0, g + 1, no, at_, l, h, _ => by
    have : l = [] := List.length_eq_zero_iff.1 (by omega)
    simp [linesF, this]
  | f + 1, 0, no, at_, l, _, h => by
    have : l = [] := List.length_eq_zero_iff.1 (by omega)
    simp [linesF, this]
  | f + 1, g + 1, no, at_, l, h1, h2 => by
    unfold linesF
    split
    · rfl
    · rename_i hn
      have := used_pos l hn
      rw [linesF_more f g _ _ _ (by simp only [List.length_drop]; omega) (by simp only [List.length_drop]; omega)]
theorem linesOn_nil (no at_ : Nat) : linesOn no at_ [] = [] := rfl
theorem linesOn_cons (no at_ : Nat) (l : List UInt8) (h : l ≠ []) : linesOn no at_ l = ⟨no, at_, head l, nl l⟩ :: linesOn (no + 1) (at_ + used l) (l.drop (used l)) := by
  unfold linesOn
  cases l with
  | nil => exact absurd rfl h
  | cons a t =>
    have := used_pos _ h
    rw [show (a :: t).length = t.length + 1 from rfl]
    conv => lhs; unfold linesF
    rw [if_neg h, linesF_more t.length ((a :: t).drop (used (a :: t))).length _ _ _ (by simp only [List.length_drop, List.length_cons]; omega) (Nat.le_refl _)]
/-- One behind the other, they are the text. -/
theorem linesOn_join : ∀ (n no at_ : Nat) (l : List UInt8), l.length ≤ n → (linesOn no at_ l).flatMap Ln.bytes = l
  | 0, _, _, l, h => by
    have : l = [] := List.length_eq_zero_iff.1 (by omega)
    subst this; rfl
  | n + 1, no, at_, l, h => by
    by_cases hl : l = []
    · subst hl; rfl
    · have hp := used_pos l hl
      rw [linesOn_cons _ _ _ hl, List.flatMap_cons, linesOn_join n _ _ _ (by simp only [List.length_drop]; omega)]
      exact (head_split l).symm
theorem linesOf_join (l : List UInt8) : (linesOf l).flatMap Ln.bytes = l := linesOn_join _ _ _ _ (Nat.le_refl _)
theorem linesOn_length : ∀ (n no at_ : Nat) (l : List UInt8), l.length ≤ n → (linesOn no at_ l).length ≤ l.length
  | 0, _, _, l, h => by
    have : l = [] := List.length_eq_zero_iff.1 (by omega)
    subst this; simp [linesOn_nil]
  | n + 1, no, at_, l, h => by
    by_cases hl : l = []
    · subst hl; simp [linesOn_nil]
    · have hp := used_pos l hl
      rw [linesOn_cons _ _ _ hl]
      have := linesOn_length n (no + 1) (at_ + used l) (l.drop (used l)) (by simp only [List.length_drop]; omega)
      simp only [List.length_cons, List.length_drop] at this ⊢
      have := used_le l
      omega
theorem linesOf_length (l : List UInt8) : (linesOf l).length ≤ l.length := linesOn_length _ _ _ _ (Nat.le_refl _)
end Go.Proofs.YtgaooalckjjplaaGreatDoor

namespace Go.Proofs.YtgaooalckjjplaaGreatDoor
open Go.Lib

theorem dig_nat {u : Nat} (h : u < 10) : (UInt8.ofNat (48 + u)).toNat = 48 + u := by
  rw [UInt8.toNat_ofNat']; omega
theorem dec_digits (u : Nat) : ∀ c ∈ decDigits u, 48 ≤ c.toNat ∧ c.toNat ≤ 57 := by
  induction u using Nat.strongRecOn with
  | _ u ih =>
    intro c hc
    by_cases h : u < 10
    · rw [decDigits_one h] at hc
      rw [List.mem_singleton.1 hc, dig_nat h]; omega
    · rw [decDigits, dif_neg h] at hc
      rcases List.mem_append.1 hc with hc | hc
      · exact ih (u / 10) (by omega) c hc
      · rw [List.mem_singleton.1 hc, dig_nat (by omega)]; omega
theorem dec_ne (u : Nat) : decDigits u ≠ [] := by
  intro h
  have := decDigits_length u
  have := nDigits_pos u
  rw [h] at *; simp at *; omega
theorem parse_snoc (c : UInt8) : ∀ (l : List UInt8) (acc : Nat), parseUint10 acc (l ++ [c]) = (match parseUint10 acc l with | .ok a => parseUint10 a [c] | NumEnd.syntax => NumEnd.syntax | .range => .range)
  | [], acc => rfl
  | d :: r, acc => by
    show parseUint10 acc (d :: (r ++ [c])) = _
    unfold parseUint10
    split
    · split
      · rfl
      · split
        · rfl
        · exact parse_snoc c r _
    · rfl
theorem parse_dec (u : Nat) (hu : u < 18446744073709551616) : parseUint10 0 (decDigits u) = .ok u := by
  induction u using Nat.strongRecOn with
  | _ u ih =>
    by_cases h : u < 10
    · rw [decDigits_one h]
      unfold parseUint10
      rw [dig_nat h, if_pos (by omega), if_neg (by omega), if_neg (by omega)]
      unfold parseUint10
      congr 1; omega
    · rw [decDigits, dif_neg h, parse_snoc, ih (u / 10) (by omega) (by omega)]
      show parseUint10 (u / 10) _ = _
      unfold parseUint10
      rw [dig_nat (show u % 10 < 10 by omega), if_pos (by omega), if_neg (by omega), if_neg (by omega)]
      unfold parseUint10
      congr 1; omega
/-- Numbers that an int holds. -/
def I64 (n : Int) : Prop := -9223372036854775808 ≤ n ∧ n ≤ 9223372036854775807
theorem atoi_itoa {n : Int} (h : I64 n) : atoiAll (itoa n) = .ok n := by
  obtain ⟨h0, h1⟩ := h
  unfold itoa
  by_cases hn : n < 0
  · rw [if_pos hn]
    unfold atoiAll
    have e45 : (45 : UInt8).toNat = 45 := rfl
    simp only [e45, or_true, if_true]
    have hm : parseMag (decDigits n.natAbs) = .ok n.natAbs := by
      unfold parseMag
      rw [if_neg (dec_ne _), parse_dec _ (by omega)]
    rw [hm]
    simp only [not_true, false_and, if_false, true_and]
    rw [if_neg (by omega)]
    congr 1; omega
  · rw [if_neg hn]
    have hm : parseMag (decDigits n.toNat) = .ok n.toNat := by
      unfold parseMag
      rw [if_neg (dec_ne _), parse_dec _ (by omega)]
    cases hd : decDigits n.toNat with
    | nil => exact absurd hd (dec_ne _)
    | cons c r =>
      have hc := dec_digits n.toNat c (by rw [hd]; exact List.mem_cons_self)
      unfold atoiAll
      simp only
      rw [if_neg (by omega), ← hd, hm]
      simp only
      rw [if_neg (by omega), if_neg (by omega), if_neg (by omega)]
      congr 1; omega
/-- What Atoi answers, beside whatever error. -/
def atoiV (l : List UInt8) : Int := match atoiAll l with | .ok v => v | NumEnd.syntax => 0 | .range => atoiSat l
theorem atoiV_itoa {n : Int} (h : I64 n) : atoiV (itoa n) = n := by unfold atoiV; rw [atoi_itoa h]
theorem itoa_bytes (n : Int) : ∀ c ∈ itoa n, c.toNat = 45 ∨ (48 ≤ c.toNat ∧ c.toNat ≤ 57) := by
  intro c hc
  unfold itoa at hc
  split at hc
  · rcases List.mem_cons.1 hc with rfl | hc
    · exact .inl rfl
    · exact .inr (dec_digits _ c hc)
  · exact .inr (dec_digits _ c hc)
theorem itoa_no {n : Int} {c : UInt8} (h1 : c.toNat ≠ 45) (h2 : c.toNat < 48 ∨ 57 < c.toNat) : c ∉ itoa n := fun hc => by
  have := itoa_bytes n c hc
  omega
end Go.Proofs.YtgaooalckjjplaaGreatDoor

namespace Go.Proofs.YtgaooalckjjplaaGreatDoor.Fr
open Go.Lib

/-- Does every line begin with a space? The flag: a line begins here. -/
def sp : Bool → List UInt8 → Bool
  | _, [] => true
  | s, c :: l => (!s || c == 32) && sp (c == 10) l
def fresh (s : Bool) (l : List UInt8) : Bool := match l.getLast? with | none => s | some c => c == 10
def lastNl (l : List UInt8) : Bool := l.getLast? == some 10
def goodR (l : List UInt8) : Bool := decide (2 ≤ l.length) && decide (l.length ≤ 50000) && lastNl l && sp true l
def AMD : List UInt8 := [37, 97, 109, 101, 110, 100, 32]
def END : List UInt8 := [37, 101, 110, 100, 32]
def headR (n : Nat) (f : List UInt8) : List UInt8 := AMD ++ (decDigits n ++ 32 :: f)
def footR (n : Nat) : List UInt8 := END ++ (decDigits n ++ [10])
def recR (n : Nat) (f b : List UInt8) : List UInt8 := headR n f ++ 10 :: (b ++ footR n)
def figsB (b : List UInt8) : List UInt8 := (Sm.figs (Sm.M.crc b)).data.toList
def fullR (b : List UInt8) : List UInt8 := recR b.length (figsB b) b
def figB (f : List UInt8) : Prop := ∃ x, Sm.takes f = some x
/-- A head of a body of n bytes. -/
structure IsHead (l : List UInt8) (n : Nat) (f : List UInt8) : Prop where
  lo : 2 ≤ n
  hi : n ≤ 50000
  fig : figB f
  eq : l = headR n f
/-- A true beginning of a record whose sum may be any figures. -/
def PartT (t : List UInt8) : Prop := ∃ n f b z, goodR b = true ∧ b.length = n ∧ figB f ∧ t ++ z = recR n f b ∧ z ≠ []
def WholeT (t b : List UInt8) : Prop := goodR b = true ∧ ∃ more, t = fullR b ++ more
/-- What a text begins with. -/
def ReadIs (t : List UInt8) (k : Nat) (b : List UInt8) (n : Nat) : Prop :=
  (WholeT t b ∧ k = 1 ∧ n = (fullR b).length) ∨ (PartT t ∧ k = 2 ∧ b = [] ∧ n = 0) ∨ (¬ PartT t ∧ (¬ ∃ b, WholeT t b) ∧ k = 3 ∧ b = [] ∧ n = 0)

-- decimal figures
theorem dec_inj {a b : Nat} (ha : a < 18446744073709551616) (hb : b < 18446744073709551616) (h : decDigits a = decDigits b) : a = b := by
  have h1 := parse_dec a ha
  rw [h, parse_dec b hb] at h1
  injection h1 with h1
  exact h1.symm
theorem dec_more {n : Nat} (h : ¬ n < 10) : decDigits n = decDigits (n / 10) ++ [UInt8.ofNat (48 + n % 10)] := by rw [decDigits, dif_neg h]
theorem dec_len5 {n : Nat} (h : n ≤ 99999) : (decDigits n).length ≤ 5 := by
  have step : ∀ (k m : Nat), (m < 10 ^ k → (decDigits m).length ≤ k) → ∀ u, u < 10 ^ (k + 1) → (u / 10 = m ∨ u < 10) → (decDigits u).length ≤ k + 1 := by
    intro k m ih u hu hm
    by_cases h10 : u < 10
    · rw [decDigits_one h10]; simp
    · rcases hm with hm | hm
      · rw [dec_more h10, List.length_append, hm]
        have : m < 10 ^ k := by rw [Nat.pow_succ] at hu; omega
        have := ih this
        simp; omega
      · exact absurd hm h10
  have h0 : ∀ k u : Nat, 1 ≤ k → u < 10 ^ k → (decDigits u).length ≤ k := by
    intro k
    induction k with
    | zero => intro u hk; omega
    | succ k ih =>
      intro u _ hu
      by_cases hk : k = 0
      · subst hk
        rw [decDigits_one (by simpa using hu)]; simp
      · exact step k (u / 10) (ih (u / 10) (by omega)) u hu (.inl rfl)
  exact h0 5 n (by omega) (by omega)
theorem dec_prefix : ∀ (n : Nat) (ds r : List UInt8), ds ≠ [] → ds ++ r = decDigits n → ∃ v, ds = decDigits v ∧ v ≤ n ∧ (1 ≤ n → 1 ≤ v) := by
  intro n
  induction n using Nat.strongRecOn with
  | _ n ih =>
    intro ds r hd h
    by_cases h10 : n < 10
    · rw [decDigits_one h10] at h
      cases ds with
      | nil => exact absurd rfl hd
      | cons c ds =>
        have hl := congrArg List.length h
        simp only [List.length_append, List.length_cons, List.length_nil] at hl
        obtain ⟨rfl, rfl⟩ : ds = [] ∧ r = [] := by constructor <;> apply List.eq_nil_of_length_eq_zero <;> omega
        exact ⟨n, by rw [decDigits_one h10]; simpa using h, Nat.le_refl _, id⟩
    · rcases List.eq_nil_or_concat r with rfl | ⟨r0, x, rfl⟩
      · exact ⟨n, by simpa using h, Nat.le_refl _, id⟩
      · rw [dec_more h10, List.concat_eq_append, ← List.append_assoc] at h
        have h1 := (List.append_inj' h rfl).1
        obtain ⟨v, e, hv, h1v⟩ := ih (n / 10) (by omega) ds r0 hd h1
        exact ⟨v, e, by omega, fun _ => h1v (by omega)⟩
theorem dec_no10 (n : Nat) : (10 : UInt8) ∉ decDigits n := fun h => by have := dec_digits n _ h; simp at this
theorem dec_no32 (n : Nat) : (32 : UInt8) ∉ decDigits n := fun h => by have := dec_digits n _ h; simp at this
theorem fig_len {f : List UInt8} (h : figB f) : f.length = 8 := by
  obtain ⟨x, h⟩ := h
  unfold Sm.takes at h
  split at h
  · assumption
  · cases h
def hexB (c : UInt8) : Bool := (Sm.val c.toNat).isSome
theorem tk_iff : ∀ (l : List UInt8) (acc : Nat), (∃ x, Sm.tk acc l = some x) ↔ l.all hexB = true
  | [], acc => by simp [Sm.tk]
  | c :: l, acc => by
    unfold Sm.tk
    cases hv : Sm.val c.toNat with
    | none => simp [hexB, hv]
    | some d => simp only [List.all_cons, hexB, hv, Option.isSome_some, Bool.true_and]; exact tk_iff l _
theorem figB_iff {f : List UInt8} : figB f ↔ f.length = 8 ∧ f.all hexB = true := by
  unfold figB Sm.takes
  by_cases h : f.length = 8
  · simp only [h, if_true, true_and]; exact tk_iff f 0
  · simp [h]
theorem hex_no {c : UInt8} (h : hexB c = true) : c ≠ 10 ∧ c ≠ 32 := by
  constructor <;> (rintro rfl; revert h; decide)
theorem fig_no10 {f : List UInt8} (h : figB f) : (10 : UInt8) ∉ f := fun hm => (hex_no (List.all_eq_true.1 (figB_iff.1 h).2 _ hm)).1 rfl
theorem figsB_ok (b : List UInt8) : figB (figsB b) := ⟨_, Sm.takes_figs _ (Sm.M.crc_lt b)⟩
theorem head_no10 {n : Nat} {f : List UInt8} (h : figB f) : (10 : UInt8) ∉ headR n f := by
  unfold headR AMD
  have := dec_no10 n
  have := fig_no10 h
  simp_all
/-- What stands up to a mark is the same on both sides. -/
theorem split_at {m : UInt8} : ∀ {a b x y : List UInt8}, m ∉ a → m ∉ b → a ++ m :: x = b ++ m :: y → a = b ∧ x = y
  | [], [], x, y, _, _, h => by simpa using h
  | [], c :: b, x, y, _, hb, h => by simp at h; exact absurd (h.1 ▸ List.mem_cons_self) hb
  | c :: a, [], x, y, ha, _, h => by simp at h; exact absurd (h.1 ▸ List.mem_cons_self) ha
  | c :: a, d :: b, x, y, ha, hb, h => by
    simp only [List.cons_append, List.cons.injEq] at h
    obtain ⟨rfl, h⟩ := h
    obtain ⟨rfl, rfl⟩ := split_at (fun q => ha (List.mem_cons_of_mem _ q)) (fun q => hb (List.mem_cons_of_mem _ q)) h
    exact ⟨rfl, rfl⟩
theorem head_inj {n n' : Nat} {f f' : List UInt8} (hn : n ≤ 50000) (hn' : n' ≤ 50000) (h : headR n f = headR n' f') : n = n' ∧ f = f' := by
  unfold headR at h
  have h1 := List.append_cancel_left h
  obtain ⟨h2, h3⟩ := split_at (dec_no32 n) (dec_no32 n') h1
  exact ⟨dec_inj (by omega) (by omega) h2, h3⟩
end Go.Proofs.YtgaooalckjjplaaGreatDoor.Fr

namespace Go.Proofs.YtgaooalckjjplaaGreatDoor.Fr
open Go.Lib

theorem sp_append : ∀ (a b : List UInt8) (s : Bool), sp s (a ++ b) = (sp s a && sp (fresh s a) b)
  | [], b, s => by simp [sp, fresh]
  | c :: a, b, s => by
    have e : fresh s (c :: a) = fresh (c == 10) a := by
      unfold fresh
      rw [List.getLast?_cons]
      cases a.getLast? <;> simp
    simp only [List.cons_append, sp, sp_append a b (c == 10), e, Bool.and_assoc]
theorem fresh_append (a b : List UInt8) (s : Bool) (h : b ≠ []) : fresh s (a ++ b) = fresh true b := by
  unfold fresh
  rw [List.getLast?_append]
  cases hb : b.getLast? with
  | none => exact absurd (List.getLast?_eq_none_iff.1 hb) h
  | some c => simp
theorem sp_spaces : ∀ (k : Nat) (s : Bool), sp s (List.replicate k 32) = true
  | 0, s => by cases s <;> rfl
  | k + 1, s => by rw [List.replicate_succ]; unfold sp; rw [sp_spaces k]; simp
theorem fresh_spaces (k : Nat) (s : Bool) : fresh s (List.replicate k 32) = (s && decide (k = 0)) := by
  cases k with
  | zero => simp [fresh]
  | succ k => unfold fresh; rw [List.getLast?_replicate]; simp
theorem good_iff {l : List UInt8} : goodR l = true ↔ 2 ≤ l.length ∧ l.length ≤ 50000 ∧ lastNl l = true ∧ sp true l = true := by unfold goodR; simp [and_assoc]
theorem good_spaces {n : Nat} (h2 : 2 ≤ n) (h5 : n ≤ 50000) : goodR (List.replicate (n - 1) 32 ++ [10]) = true := by
  rw [good_iff, sp_append, sp_spaces, fresh_spaces]
  have : ¬ n - 1 = 0 := by omega
  refine ⟨by simp; omega, by simp; omega, by simp [lastNl], ?_⟩
  simp [sp, this]
/-- What may be a body's beginning. -/
def bodyPart (t : List UInt8) (n : Nat) : Bool := sp true t && !(fresh true t && decide (n - t.length < 2))
theorem body_part {t : List UInt8} {n : Nat} (h2 : 2 ≤ n) (h5 : n ≤ 50000) (hl : t.length < n) : (∃ z, goodR (t ++ z) = true ∧ (t ++ z).length = n) ↔ bodyPart t n = true := by
  unfold bodyPart
  constructor
  · rintro ⟨z, hg, hz⟩
    obtain ⟨_, _, h3, h4⟩ := good_iff.1 hg
    rw [sp_append] at h4
    simp only [Bool.and_eq_true] at h4 ⊢
    refine ⟨h4.1, ?_⟩
    cases hf : fresh true t with
    | false => rfl
    | true =>
      rw [hf] at h4
      rw [List.length_append] at hz
      by_cases hk : n - t.length < 2
      · exfalso
        obtain ⟨c, rfl⟩ : ∃ c, z = [c] := by
          match z, hz with
          | [], hz => simp at hz; omega
          | [c], _ => exact ⟨c, rfl⟩
          | a :: b :: z, hz => simp at hz; omega
        have h5 := h4.2
        unfold lastNl at h3
        simp [sp] at h3 h5
        subst h3
        cases h5
      · simp [hk]
  · intro h
    simp only [Bool.and_eq_true] at h
    refine ⟨List.replicate (n - t.length - 1) 32 ++ [10], ?_, by simp; omega⟩
    rw [good_iff]
    refine ⟨by simp; omega, by simp; omega, by simp [lastNl], ?_⟩
    rw [sp_append, h.1, Bool.true_and, sp_append, sp_spaces, fresh_spaces]
    cases hf : fresh true t with
    | false => simp [sp]
    | true =>
      have h2 := h.2
      rw [hf] at h2
      have : ¬ n - t.length - 1 = 0 := by simp at h2; omega
      simp [sp, this]
theorem body_tail {t : List UInt8} {n : Nat} (h2 : 2 ≤ n) (h5 : n ≤ 50000) (hl : t.length < n) : goodR (t ++ (List.replicate (n - t.length - 1) 32 ++ [10])) = bodyPart t n := by
  rw [Bool.eq_iff_iff]
  constructor
  · intro h
    exact (body_part h2 h5 hl).1 ⟨_, h, by simp; omega⟩
  · intro h
    unfold bodyPart at h
    simp only [Bool.and_eq_true] at h
    rw [good_iff]
    refine ⟨by simp; omega, by simp; omega, by simp [lastNl], ?_⟩
    rw [sp_append, h.1, Bool.true_and, sp_append, sp_spaces, fresh_spaces]
    cases hf : fresh true t with
    | false => simp [sp]
    | true =>
      have h2 := h.2
      rw [hf] at h2
      have : ¬ n - t.length - 1 = 0 := by simp at h2; omega
      simp [sp, this]
/-- A beginning of a head. -/
def HeadPart (l : List UInt8) : Prop := ∃ n f z, 2 ≤ n ∧ n ≤ 50000 ∧ figB f ∧ l ++ z = headR n f
theorem take_of {a b z : List UInt8} (h : a ++ z = b) (k : Nat) (hk : a.length ≤ k) : ∃ y, a ++ y = b.take k := ⟨z.take (k - a.length), by rw [← h, List.take_append, List.take_of_length_le hk]⟩
theorem rec_def (n : Nat) (f b : List UInt8) : recR n f b = headR n f ++ 10 :: (b ++ footR n) := rfl
theorem part_line {t : List UInt8} (h : (10 : UInt8) ∉ t) : PartT t ↔ HeadPart t := by
  constructor
  · rintro ⟨n, f, b, z, hg, hn, hf, he, hz⟩
    obtain ⟨h2, h5, _, _⟩ := good_iff.1 hg
    refine ⟨n, f, ?_⟩
    by_cases hl : t.length ≤ (headR n f).length
    · obtain ⟨y, hy⟩ := take_of he (headR n f).length hl
      rw [rec_def, List.take_left] at hy
      exact ⟨y, by omega, by omega, hf, hy⟩
    · exfalso
      have h1 : (headR n f ++ [10]).length ≤ t.length := by simp; omega
      have e : headR n f ++ [10] ++ (b ++ footR n) = t ++ z := by rw [he, rec_def]; simp
      obtain ⟨y, hy⟩ := take_of e t.length h1
      rw [List.take_left] at hy
      exact h (by rw [← hy]; simp)
  · rintro ⟨n, f, z, h2, h5, hf, he⟩
    refine ⟨n, f, List.replicate (n - 1) 32 ++ [10], z ++ 10 :: ((List.replicate (n - 1) 32 ++ [10]) ++ footR n), good_spaces h2 h5, by simp; omega, hf, ?_, by simp⟩
    rw [rec_def, ← he]; simp
theorem no_whole_line {t b : List UInt8} (h : (10 : UInt8) ∉ t) : ¬ WholeT t b := by
  rintro ⟨_, more, rfl⟩
  exact h (by unfold fullR; rw [rec_def]; simp)
/-- A text with a line end whose first line is no head. -/
theorem odd_line {l r : List UInt8} (hl : (10 : UInt8) ∉ l) (h : ¬ ∃ n f, IsHead l n f) : ¬ PartT (l ++ 10 :: r) ∧ ¬ ∃ b, WholeT (l ++ 10 :: r) b := by
  constructor
  · rintro ⟨n, f, b, z, hg, hn, hf, he, hz⟩
    obtain ⟨h2, h5, _, _⟩ := good_iff.1 hg
    rw [rec_def, List.append_assoc, List.cons_append] at he
    exact h ⟨n, f, by omega, by omega, hf, (split_at hl (head_no10 hf) he).1⟩
  · rintro ⟨b, hg, more, he⟩
    obtain ⟨h2, h5, _, _⟩ := good_iff.1 hg
    unfold fullR at he
    rw [rec_def, List.append_assoc, List.cons_append] at he
    exact h ⟨b.length, figsB b, h2, h5, figsB_ok b, (split_at hl (head_no10 (figsB_ok b)) he).1⟩
theorem part_behind {n : Nat} {f r : List UInt8} (h2 : 2 ≤ n) (h5 : n ≤ 50000) (hf : figB f) : PartT (headR n f ++ 10 :: r) ↔ ∃ b z, goodR b = true ∧ b.length = n ∧ r ++ z = b ++ footR n ∧ z ≠ [] := by
  constructor
  · rintro ⟨n', f', b, z, hg, hn, hf', he, hz⟩
    obtain ⟨h2', h5', _, _⟩ := good_iff.1 hg
    rw [rec_def, List.append_assoc, List.cons_append] at he
    obtain ⟨e1, e2⟩ := split_at (head_no10 hf) (head_no10 hf') he
    obtain ⟨rfl, rfl⟩ := head_inj h5 (by omega) e1
    exact ⟨b, z, hg, hn, e2, hz⟩
  · rintro ⟨b, z, hg, hn, he, hz⟩
    exact ⟨n, f, b, z, hg, hn, hf, by rw [rec_def, ← he]; simp, hz⟩
theorem whole_behind {n : Nat} {f r b : List UInt8} (h2 : 2 ≤ n) (h5 : n ≤ 50000) (hf : figB f) : WholeT (headR n f ++ 10 :: r) b ↔ goodR b = true ∧ b.length = n ∧ figsB b = f ∧ ∃ more, r = b ++ (footR n ++ more) := by
  constructor
  · rintro ⟨hg, more, he⟩
    obtain ⟨h2', h5', _, _⟩ := good_iff.1 hg
    unfold fullR at he
    rw [rec_def, List.append_assoc, List.cons_append] at he
    obtain ⟨e1, e2⟩ := split_at (head_no10 hf) (head_no10 (figsB_ok b)) he
    obtain ⟨rfl, rfl⟩ := head_inj h5 (by omega) e1
    exact ⟨hg, rfl, rfl, more, by rw [e2]; simp⟩
  · rintro ⟨hg, rfl, rfl, more, rfl⟩
    exact ⟨hg, more, by unfold fullR; rw [rec_def]; simp⟩
/-- The body isn't all there. -/
theorem short_body {n : Nat} {f r : List UInt8} (h2 : 2 ≤ n) (h5 : n ≤ 50000) (hf : figB f) (hl : r.length < n) : (PartT (headR n f ++ 10 :: r) ↔ bodyPart r n = true) ∧ ¬ ∃ b, WholeT (headR n f ++ 10 :: r) b := by
  constructor
  · rw [part_behind h2 h5 hf, ← body_part h2 h5 hl]
    constructor
    · rintro ⟨b, z, hg, hn, he, hz⟩
      obtain ⟨y, hy⟩ := take_of he b.length (by omega)
      rw [List.take_left] at hy
      exact ⟨y, by rw [hy]; exact hg, by rw [hy]; exact hn⟩
    · rintro ⟨z, hg, hz⟩
      exact ⟨r ++ z, z ++ footR n, hg, hz, by simp, by intro q; have := (List.append_eq_nil_iff.1 q).2; simp [footR, END] at this⟩
  · rintro ⟨b, h⟩
    obtain ⟨_, hn, _, more, rfl⟩ := (whole_behind h2 h5 hf).1 h
    simp at hl; omega
/-- The body is there. -/
theorem long_body {n : Nat} {f b r : List UInt8} (h2 : 2 ≤ n) (h5 : n ≤ 50000) (hf : figB f) (hl : b.length = n) :
    (PartT (headR n f ++ 10 :: (b ++ r)) ↔ goodR b = true ∧ ∃ z, r ++ z = footR n ∧ z ≠ []) ∧ (∀ b', WholeT (headR n f ++ 10 :: (b ++ r)) b' ↔ b' = b ∧ goodR b = true ∧ figsB b = f ∧ ∃ more, r = footR n ++ more) := by
  constructor
  · rw [part_behind h2 h5 hf]
    constructor
    · rintro ⟨b', z, hg, hn, he, hz⟩
      rw [List.append_assoc] at he
      obtain ⟨rfl, e2⟩ := List.append_inj he (by omega)
      exact ⟨hg, z, e2, hz⟩
    · rintro ⟨hg, z, he, hz⟩
      exact ⟨b, z, hg, hl, by rw [List.append_assoc, he], hz⟩
  · intro b'
    rw [whole_behind h2 h5 hf]
    constructor
    · rintro ⟨hg, hn, hfg, more, he⟩
      obtain ⟨rfl, e2⟩ := List.append_inj he (by omega)
      exact ⟨rfl, hg, hfg, more, e2⟩
    · rintro ⟨rfl, hg, hfg, more, rfl⟩
      exact ⟨hg, hl, hfg, more, rfl⟩
/-- What a text begins with is one thing. -/
theorem whole_not_part {t b : List UInt8} (h : WholeT t b) : ¬ PartT t := by
  obtain ⟨hg, more, rfl⟩ := h
  obtain ⟨h2, h5, _, _⟩ := good_iff.1 hg
  intro hp
  have e : fullR b ++ more = headR b.length (figsB b) ++ 10 :: (b ++ (footR b.length ++ more)) := by unfold fullR; rw [rec_def]; simp
  rw [e] at hp
  obtain ⟨_, z, hz, h0⟩ := (long_body h2 h5 (figsB_ok b) rfl).1.1 hp
  have := congrArg List.length hz
  simp only [List.length_append] at this
  exact h0 (List.eq_nil_of_length_eq_zero (by omega))
theorem whole_one {t b b' : List UInt8} (h : WholeT t b) (h' : WholeT t b') : b = b' := by
  obtain ⟨hg, more, rfl⟩ := h
  obtain ⟨h2, h5, _, _⟩ := good_iff.1 hg
  have e : fullR b ++ more = headR b.length (figsB b) ++ 10 :: (b ++ (footR b.length ++ more)) := by unfold fullR; rw [rec_def]; simp
  rw [e] at h'
  exact (((long_body h2 h5 (figsB_ok b) rfl).2 b').1 h').1.symm
theorem read_one {t : List UInt8} {k k' n n' : Nat} {b b' : List UInt8} (h : ReadIs t k b n) (h' : ReadIs t k' b' n') : k = k' ∧ b = b' ∧ n = n' := by
  rcases h with ⟨a, rfl, rfl⟩ | ⟨a, rfl, rfl, rfl⟩ | ⟨a, a2, rfl, rfl, rfl⟩ <;> rcases h' with ⟨c, rfl, rfl⟩ | ⟨c, rfl, rfl, rfl⟩ | ⟨c, c2, rfl, rfl, rfl⟩
  · obtain rfl := whole_one a c; exact ⟨rfl, rfl, rfl⟩
  · exact absurd c (whole_not_part a)
  · exact absurd ⟨_, a⟩ c2
  · exact absurd a (whole_not_part c)
  · exact ⟨rfl, rfl, rfl⟩
  · exact absurd a c
  · exact absurd ⟨_, c⟩ a2
  · exact absurd c a
  · exact ⟨rfl, rfl, rfl⟩
end Go.Proofs.YtgaooalckjjplaaGreatDoor.Fr

namespace Go.Proofs.YtgaooalckjjplaaGreatDoor.Fr
open Go.Lib

def zeros : List UInt8 := [48, 48, 48, 48, 48, 48, 48, 48]
def longest : List UInt8 := [37, 97, 109, 101, 110, 100, 32, 53, 48, 48, 48, 48, 32, 48, 48, 48, 48, 48, 48, 48, 48]
theorem zeros_fig : figB zeros := figB_iff.2 ⟨rfl, by decide⟩
theorem longest_eq : longest = headR 50000 zeros := by
  unfold headR
  rw [dec_more (by omega), dec_more (by omega), dec_more (by omega), dec_more (by omega), decDigits_one (by omega)]
  rfl
theorem dec10 : decDigits 10 = [49, 48] := by rw [dec_more (by omega), decDigits_one (by omega)]; rfl
theorem dec1 : decDigits 1 = [49] := by rw [decDigits_one (by omega)]; rfl
/-- Two texts that are one, parted at two places. -/
theorem two_ways {a b x y : List UInt8} (h : a ++ x = b ++ y) : (∃ q, b = a ++ q ∧ x = q ++ y) ∨ (∃ c q, a = b ++ c :: q ∧ y = c :: q ++ x) := by
  rcases List.append_eq_append_iff.1 h with ⟨q, h1, h2⟩ | ⟨q, h1, h2⟩
  · exact .inl ⟨q, h1, h2⟩
  · cases q with
    | nil => exact .inl ⟨[], by simpa using h1.symm, by simpa using h2.symm⟩
    | cons c q => exact .inr ⟨c, q, h1, h2⟩
theorem fig_fill {r z f : List UInt8} (hf : figB f) (h : r ++ z = f) : figB (r ++ zeros.drop r.length) := by
  obtain ⟨h8, hx⟩ := figB_iff.1 hf
  have hl : r.length ≤ 8 := by have := congrArg List.length h; simp at this; omega
  refine figB_iff.2 ⟨by simp [zeros]; omega, ?_⟩
  rw [List.all_append, Bool.and_eq_true]
  rw [← h, List.all_append, Bool.and_eq_true] at hx
  exact ⟨hx.1, List.all_eq_true.2 fun c hc => by have := List.mem_of_mem_drop hc; simp [zeros] at this; subst this; decide⟩
theorem head_parts {l : List UInt8} : HeadPart l ↔ ∃ at_, at_ ≤ 21 ∧ ∃ n f, IsHead (l ++ longest.drop at_) n f := by
  constructor
  · rintro ⟨n, f, z, h2, h5, hf, he⟩
    unfold headR at he
    rcases two_ways he with ⟨q, e1, e2⟩ | ⟨c, q, e1, e2⟩
    · have hq : q = AMD.drop l.length := by rw [e1]; simp
      have hl : l.length ≤ 7 := by have := congrArg List.length e1; simp [AMD] at this; omega
      refine ⟨l.length, by omega, 50000, zeros, by omega, by omega, zeros_fig, ?_⟩
      rw [← longest_eq]
      have e3 : longest = l ++ (q ++ longest.drop 7) := by rw [← List.append_assoc, ← e1]; rfl
      have e4 : longest.drop l.length = q ++ longest.drop 7 := by rw [e3, List.drop_left, ← e3]
      rw [e4]; exact e3.symm
    · rcases two_ways e2 with ⟨q2, e3, e4⟩ | ⟨d, q2, e3, e4⟩
      · -- behind the number
        cases q2 with
        | nil =>
          rw [List.append_nil] at e3
          refine ⟨12, by omega, n, zeros, h2, h5, zeros_fig, ?_⟩
          rw [e1, e3]; unfold headR; rw [List.append_assoc]; rfl
        | cons d q2 =>
          rw [List.cons_append] at e4
          injection e4 with e5 e6
          subst e5
          have hl : q2.length ≤ 8 := by have := congrArg List.length e6; have := fig_len hf; simp at *; omega
          refine ⟨13 + q2.length, by omega, n, q2 ++ zeros.drop q2.length, h2, h5, fig_fill hf e6.symm, ?_⟩
          rw [e1, e3]; unfold headR
          have : longest.drop (13 + q2.length) = zeros.drop q2.length := by rw [← List.drop_drop]; rfl
          rw [this]; simp
      · -- within the number
        obtain ⟨v, e5, hv, h1v⟩ := dec_prefix n (c :: q) (d :: q2) (by simp) e3.symm
        have h1 := h1v (by omega)
        by_cases hv1 : v = 1
        · subst hv1
          refine ⟨11, by omega, 10, zeros, by omega, by omega, zeros_fig, ?_⟩
          rw [e1, e5]; unfold headR; rw [dec10, dec1]; rfl
        · refine ⟨12, by omega, v, zeros, by omega, by omega, zeros_fig, ?_⟩
          rw [e1, e5]; unfold headR; rw [List.append_assoc]; rfl
  · rintro ⟨at_, _, n, f, h⟩
    exact ⟨n, f, _, h.lo, h.hi, h.fig, h.eq⟩
theorem part_len {l : List UInt8} (h : HeadPart l) : l.length ≤ 21 := by
  obtain ⟨n, f, z, h2, h5, hf, he⟩ := h
  have := congrArg List.length he
  have := dec_len5 (show n ≤ 99999 by omega)
  have := fig_len hf
  unfold headR AMD at *
  simp at *
  omega
-- the document's counting
theorem part_of {t : List UInt8} (h : HeadPart t) : ReadIs t 2 [] 0 := by
  have h10 : (10 : UInt8) ∉ t := by
    obtain ⟨n, f, z, h2, h5, hf, he⟩ := h
    intro hm
    exact head_no10 (n := n) hf (by rw [← he]; simp [hm])
  exact .inr (.inl ⟨(part_line h10).2 h, rfl, rfl, rfl⟩)
/-- How many figures of a sum a text begins with, at most eight. -/
def hx (l : List UInt8) : Nat := ((l.take 8).takeWhile hexB).length
end Go.Proofs.YtgaooalckjjplaaGreatDoor.Fr

namespace Go.Proofs.YtgaooalckjjplaaGreatDoor

def blankB (c : UInt8) : Bool := c == 32 || c == 9
def beginsB : List UInt8 → Bool
  | [] => false
  | c :: _ => blankB c
def hashB : List UInt8 → Bool
  | [] => false
  | c :: _ => c == 35
def hasB (l : List UInt8) (c : UInt8) : Bool := l.contains c
def blankAll (l : List UInt8) : Bool := l.all blankB
def goodKey (k : List UInt8) : Bool := decide (1 ≤ k.length) && decide (k.length ≤ 32) && !beginsB k && !hashB k && !hasB k 58 && !hasB k 10
def before (l : List UInt8) : List UInt8 := l.takeWhile (· != 58)
def kindL (l : List UInt8) : Nat :=
  if hasB l 10 = true then 5 else if blankAll l = true then 1 else if hashB l = true then 2 else if beginsB l = true then 3 else if hasB l 58 = true ∧ goodKey (before l) = true then 4 else 5

end Go.Proofs.YtgaooalckjjplaaGreatDoor

