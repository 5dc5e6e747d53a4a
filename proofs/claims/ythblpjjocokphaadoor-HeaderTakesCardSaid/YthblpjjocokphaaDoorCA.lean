/- The check sum as plain arithmetic: one bit's step, a byte's step, a text's. Its laws: linear, one to one. -/

namespace Go.Proofs.YthblpjjocokphaaDoor.Sm.M
def st (x : Nat) : Nat := if x / 2147483648 = 1 then (x * 2 % 4294967296) ^^^ 79764919 else x * 2 % 4294967296
def stn : Nat → Nat → Nat
  | 0, x => x
  | n + 1, x => stn n (st x)
def feed1 (x c : Nat) : Nat := stn 8 (x ^^^ (c * 16777216))
def feed (x : Nat) (l : List UInt8) : Nat := l.foldl (fun x c => feed1 x c.toNat) x
theorem st_lt (x : Nat) : st x < 4294967296 := by
  unfold st
  split
  · exact Nat.xor_lt_two_pow (n := 32) (Nat.mod_lt _ (by decide)) (by decide)
  · exact Nat.mod_lt _ (by decide)
theorem stn_lt (n x : Nat) (h : x < 4294967296) : stn n x < 4294967296 := by
  induction n generalizing x with
  | zero => exact h
  | succ n ih => exact ih _ (st_lt x)
theorem stn_succ (n x : Nat) : stn (n + 1) x = st (stn n x) := by
  induction n generalizing x with
  | zero => rfl
  | succ n ih => show stn (n + 1) (st x) = st (stn n (st x)); exact ih _
theorem feed1_lt (x c : Nat) (h : x < 4294967296) (hc : c < 256) : feed1 x c < 4294967296 :=
  stn_lt _ _ (Nat.xor_lt_two_pow (n := 32) h (by omega))
theorem feed_lt (l : List UInt8) (x : Nat) (h : x < 4294967296) : feed x l < 4294967296 := by
  induction l generalizing x with
  | nil => exact h
  | cons c l ih => exact ih _ (feed1_lt x _ h c.toNat_lt)
theorem feed_append (x : Nat) (l r : List UInt8) : feed x (l ++ r) = feed (feed x l) r := by
  simp [feed, List.foldl_append]
theorem feed_snoc (x : Nat) (l : List UInt8) (c : UInt8) : feed x (l ++ [c]) = feed1 (feed x l) c.toNat := by
  simp [feed, List.foldl_append]
/-- linear -/
theorem tb (x i : Nat) (h : x < 4294967296) : (x * 2 % 4294967296).testBit i = (decide (i < 32) && decide (0 < i) && x.testBit (i - 1)) := by
  have : (x * 2 % 4294967296) = (x <<< 1) % 2 ^ 32 := by rw [Nat.shiftLeft_eq]
  rw [this, Nat.testBit_mod_two_pow, Nat.testBit_shiftLeft]
  by_cases h1 : i < 32 <;> by_cases h2 : 0 < i <;> simp [h1, h2] <;> omega
theorem top (x : Nat) (h : x < 4294967296) : (x / 2147483648 = 1) ↔ x.testBit 31 = true := by
  rw [Nat.testBit_eq_decide_div_mod_eq, show 2 ^ 31 = 2147483648 from rfl]
  simp; omega
theorem shl_xor (x y : Nat) (hx : x < 4294967296) (hy : y < 4294967296) : (x ^^^ y) * 2 % 4294967296 = (x * 2 % 4294967296) ^^^ (y * 2 % 4294967296) := by
  apply Nat.eq_of_testBit_eq
  intro i
  rw [tb _ _ (Nat.xor_lt_two_pow (n := 32) hx hy), Nat.testBit_xor, Nat.testBit_xor, tb _ _ hx, tb _ _ hy]
  cases decide (i < 32) <;> cases decide (0 < i) <;> simp
theorem st_xor (x y : Nat) (hx : x < 4294967296) (hy : y < 4294967296) : st (x ^^^ y) = st x ^^^ st y := by
  have hxy : x ^^^ y < 4294967296 := Nat.xor_lt_two_pow (n := 32) hx hy
  unfold st
  rw [shl_xor x y hx hy]
  simp only [top x hx, top y hy, top _ hxy, Nat.testBit_xor]
  generalize x * 2 % 4294967296 = a
  generalize y * 2 % 4294967296 = b
  generalize 79764919 = p
  cases x.testBit 31 <;> cases y.testBit 31 <;> simp
  · rw [Nat.xor_assoc]
  · rw [Nat.xor_assoc, Nat.xor_assoc, Nat.xor_comm b p]
  · rw [Nat.xor_assoc, Nat.xor_comm p, Nat.xor_assoc, Nat.xor_self, Nat.xor_zero]
theorem stn_xor (n x y : Nat) (hx : x < 4294967296) (hy : y < 4294967296) : stn n (x ^^^ y) = stn n x ^^^ stn n y := by
  induction n generalizing x y with
  | zero => rfl
  | succ n ih => show stn n (st _) = _; rw [st_xor x y hx hy, ih _ _ (st_lt x) (st_lt y)]; rfl
theorem xor_eq_zero {a b : Nat} (h : a ^^^ b = 0) : a = b := by
  have : (a ^^^ b) ^^^ b = b := by rw [h]; simp
  rwa [Nat.xor_assoc, Nat.xor_self, Nat.xor_zero] at this
theorem st_zero (x : Nat) (hx : x < 4294967296) (h : st x = 0) : x = 0 := by
  unfold st at h
  split at h
  · have h0 := congrArg (fun n => n.testBit 0) h
    simp only [Nat.testBit_xor, tb x 0 hx] at h0
    simp at h0
  · omega
theorem stn_zero (n x : Nat) (hx : x < 4294967296) (h : stn n x = 0) : x = 0 := by
  induction n generalizing x with
  | zero => exact h
  | succ n ih => exact st_zero x hx (ih _ (st_lt x) h)
theorem stn_inj (n x y : Nat) (hx : x < 4294967296) (hy : y < 4294967296) (h : stn n x = stn n y) : x = y := by
  have h' : stn n (x ^^^ y) = 0 := by rw [stn_xor n x y hx hy, h, Nat.xor_self]
  exact xor_eq_zero (stn_zero n _ (Nat.xor_lt_two_pow (n := 32) hx hy) h')
theorem xor_right {a b c : Nat} (h : a ^^^ c = b ^^^ c) : a = b := by
  have := congrArg (· ^^^ c) h
  simpa [Nat.xor_assoc] using this
theorem feed1_inj (x y c : Nat) (hx : x < 4294967296) (hy : y < 4294967296) (hc : c < 256) (h : feed1 x c = feed1 y c) : x = y := by
  have hc' : c * 16777216 < 4294967296 := by omega
  exact xor_right (stn_inj 8 _ _ (Nat.xor_lt_two_pow (n := 32) hx hc') (Nat.xor_lt_two_pow (n := 32) hy hc') h)
theorem feed_inj (l : List UInt8) (x y : Nat) (hx : x < 4294967296) (hy : y < 4294967296) (h : feed x l = feed y l) : x = y := by
  induction l generalizing x y with
  | nil => exact h
  | cons c l ih => exact feed1_inj x y _ hx hy c.toNat_lt (ih _ _ (feed1_lt x _ hx c.toNat_lt) (feed1_lt y _ hy c.toNat_lt) h)
theorem st_low (x : Nat) (h : x < 2147483648) : st x = x * 2 := by
  unfold st; rw [if_neg (by omega)]; omega
theorem stn_low (n x : Nat) (h : x * 2 ^ n < 4294967296) : stn n x = x * 2 ^ n := by
  induction n generalizing x with
  | zero => simp [stn]
  | succ n ih =>
    have e : x * 2 ^ (n + 1) = x * 2 * 2 ^ n := by rw [Nat.pow_succ, Nat.mul_comm (2 ^ n) 2, Nat.mul_assoc]
    have hx : x < 2147483648 := by
      have := Nat.one_le_two_pow (n := n)
      have h2 : x * 2 * 1 ≤ x * 2 * 2 ^ n := Nat.mul_le_mul_left _ this
      omega
    show stn n (st x) = _
    rw [st_low x hx, ih _ (by rw [← e]; exact h), e]
/-- four bits at once: what the table does -/
theorem four (x : Nat) (hx : x < 4294967296) : stn 4 x = (x * 16 % 4294967296) ^^^ stn 4 (x / 268435456 * 268435456) := by
  have e : x = (x / 268435456 * 268435456) ^^^ (x % 268435456) := by
    have h := Nat.two_pow_add_eq_or_of_lt (i := 28) (b := x % 268435456) (Nat.mod_lt _ (by decide)) (x / 268435456)
    have h2 : x / 268435456 * 268435456 ^^^ x % 268435456 = 2 ^ 28 * (x / 268435456) + x % 268435456 := by
      rw [Nat.mul_comm, show (268435456 : Nat) = 2 ^ 28 from rfl]
      apply Nat.eq_of_testBit_eq
      intro i
      rw [h, Nat.testBit_xor, Nat.testBit_or, Nat.testBit_two_pow_mul, Nat.testBit_mod_two_pow]
      by_cases hi : i < 28
      · simp [hi, Nat.not_le.2 hi]
      · simp [hi]
    omega
  have hh : x / 268435456 * 268435456 < 4294967296 := by omega
  have hl : x % 268435456 < 4294967296 := by omega
  conv => lhs; rw [e]
  rw [stn_xor 4 _ _ hh hl, stn_low 4 (x % 268435456) (by omega), Nat.xor_comm]
  congr 1
  omega
theorem eight (x : Nat) : stn 8 x = stn 4 (stn 4 x) := rfl
theorem m24 (c : Nat) (h : c < 256) : c * 16777216 < 4294967296 := by omega
theorem m16 (c : Nat) (h : c < 256) : c * 65536 < 16777216 := by omega
theorem m8 (c : Nat) (h : c < 256) : c * 256 < 65536 := by omega
theorem m16' (c : Nat) (h : c < 256) : c * 65536 < 4294967296 := by omega
theorem a1 (t : Nat) : t * 65536 * 256 = t * 16777216 := by omega
theorem a2 (t : Nat) : t * 256 * 256 = t * 65536 := by omega
theorem up (y : Nat) (h : y < 16777216) : y < 4294967296 := by omega
theorem up8 (y : Nat) (h : y < 256) : y < 65536 := by omega
theorem up16 (y : Nat) (h : y < 65536) : y < 16777216 := by omega
theorem low8 (y : Nat) (h : y < 16777216) : stn 8 y = y * 256 := by
  have e : y * 2 ^ 8 < 4294967296 := by omega
  exact stn_low 8 y e
theorem z24 (p y : Nat) (h : p * 16777216 = y) (hy : y < 16777216) : p = 0 ∧ y = 0 := by omega
theorem z16 (p y : Nat) (h : p * 65536 = y) (hy : y < 65536) : p = 0 ∧ y = 0 := by omega
theorem z8 (p y : Nat) (h : p * 256 = y) (hy : y < 256) : p = 0 ∧ y = 0 := by omega
theorem mul_xor (c p k : Nat) : (c ^^^ p) * 2 ^ k = (c * 2 ^ k) ^^^ (p * 2 ^ k) := by
  rw [← Nat.shiftLeft_eq, ← Nat.shiftLeft_eq, ← Nat.shiftLeft_eq, Nat.shiftLeft_xor_distrib]
theorem swap4 (x y a b : Nat) : (x ^^^ y) ^^^ (a ^^^ b) = (x ^^^ a) ^^^ (y ^^^ b) := by
  rw [Nat.xor_assoc, Nat.xor_assoc, ← Nat.xor_assoc y, Nat.xor_comm y a, Nat.xor_assoc]
theorem feed1_xor (x y c p : Nat) (hx : x < 4294967296) (hy : y < 4294967296) (hc : c < 256) (hp : p < 256) : feed1 (x ^^^ y) (c ^^^ p) = feed1 x c ^^^ feed1 y p := by
  unfold feed1
  rw [← stn_xor 8 _ _ (Nat.xor_lt_two_pow (n := 32) hx (m24 c hc)) (Nat.xor_lt_two_pow (n := 32) hy (m24 p hp))]
  refine congrArg (stn 8) ?_
  have e : (c ^^^ p) * 16777216 = (c * 16777216) ^^^ (p * 16777216) := mul_xor c p 24
  rw [e]
  exact swap4 x y _ _
theorem feed1_zero (p : Nat) : feed1 0 p = stn 8 (p * 16777216) := by unfold feed1; rw [Nat.zero_xor]
theorem move {a b c : Nat} (h : a ^^^ b = c) : a = c ^^^ b := by rw [← h, Nat.xor_assoc, Nat.xor_self, Nat.xor_zero]
/-- a register that four bytes of a pattern bring to nothing -/
theorem pattern (p q r t : Nat) (hp : p < 256) (hq : q < 256) (hr : r < 256) (ht : t < 256)
    (h : feed1 (feed1 (feed1 (feed1 0 p) q) r) t = 0) : p = 0 ∧ q = 0 ∧ r = 0 ∧ t = 0 := by
  have l1 : feed1 0 p < 4294967296 := feed1_lt _ _ (by decide) hp
  have l2 := feed1_lt _ _ l1 hq
  have l3 := feed1_lt _ _ l2 hr
  have x32 : ∀ a b : Nat, a < 4294967296 → b < 4294967296 → a ^^^ b < 4294967296 := fun a b ha hb => Nat.xor_lt_two_pow (n := 32) ha hb
  have e4 : feed1 (feed1 (feed1 0 p) q) r = t * 65536 * 256 := by
    rw [a1]
    exact xor_eq_zero (stn_zero 8 _ (x32 _ _ l3 (m24 t ht)) h)
  rw [← low8 _ (m16 t ht)] at e4
  have e3 := move (stn_inj 8 _ _ (x32 _ _ l2 (m24 r hr)) (m16' t ht) e4)
  have y2 : t * 256 ^^^ r * 65536 < 16777216 := Nat.xor_lt_two_pow (n := 24) (up16 _ (m8 t ht)) (m16 r hr)
  have e3' : feed1 (feed1 0 p) q = (t * 256 ^^^ r * 65536) * 256 := by
    have h1 : (t * 256 ^^^ r * 65536) * 256 = _ := mul_xor _ _ 8
    rw [h1, e3, a1 r, a2 t]
  rw [← low8 _ y2] at e3'
  have e2 := move (stn_inj 8 _ _ (x32 _ _ l1 (m24 q hq)) (up _ y2) e3')
  have y1 : (t ^^^ r * 256) ^^^ q * 65536 < 16777216 := Nat.xor_lt_two_pow (n := 24) (Nat.xor_lt_two_pow (n := 24) (up16 _ (up8 _ ht)) (up16 _ (m8 r hr))) (m16 q hq)
  have e2' : feed1 0 p = ((t ^^^ r * 256) ^^^ q * 65536) * 256 := by
    have h1 : ((t ^^^ r * 256) ^^^ q * 65536) * 256 = _ := mul_xor _ _ 8
    have h2 : (t ^^^ r * 256) * 256 = _ := mul_xor _ _ 8
    rw [h1, h2, e2, a1 q, a2 r]
  rw [feed1_zero, ← low8 _ y1] at e2'
  have e1 := stn_inj 8 _ _ (m24 p hp) (up _ y1) e2'
  obtain ⟨hp0, e0⟩ := z24 _ _ e1 y1
  obtain ⟨hq0, e00⟩ := z16 _ _ (xor_eq_zero e0).symm (Nat.xor_lt_two_pow (n := 16) (up8 _ ht) (m8 r hr))
  obtain ⟨hr0, ht0⟩ := z8 _ _ (xor_eq_zero e00).symm ht
  exact ⟨hp0, hq0, hr0, ht0⟩
/-- four bytes changed by a pattern: the registers part -/
theorem parts (x a b c d p q r t : Nat) (hx : x < 4294967296) (ha : a < 256) (hb : b < 256) (hc : c < 256) (hd : d < 256) (hp : p < 256) (hq : q < 256) (hr : r < 256) (ht : t < 256)
    (h : feed1 (feed1 (feed1 (feed1 x (a ^^^ p)) (b ^^^ q)) (c ^^^ r)) (d ^^^ t) = feed1 (feed1 (feed1 (feed1 x a) b) c) d) : p = 0 ∧ q = 0 ∧ r = 0 ∧ t = 0 := by
  refine pattern p q r t hp hq hr ht ?_
  have z1 := feed1_lt 0 p (by decide) hp
  have z2 := feed1_lt _ q z1 hq
  have z3 := feed1_lt _ r z2 hr
  have y1 := feed1_lt x a hx ha
  have y2 := feed1_lt _ b y1 hb
  have y3 := feed1_lt _ c y2 hc
  rw [show x = x ^^^ 0 from (Nat.xor_zero x).symm, feed1_xor x 0 a p hx (by decide) ha hp, feed1_xor _ _ b q y1 z1 hb hq, feed1_xor _ _ c r y2 z2 hc hr, feed1_xor _ _ d t y3 z3 hd ht] at h
  simp only [Nat.xor_zero] at h
  generalize feed1 (feed1 (feed1 (feed1 x a) b) c) d = u at h
  generalize feed1 (feed1 (feed1 (feed1 0 p) q) r) t = v at h
  have := congrArg (u ^^^ ·) h
  simpa [← Nat.xor_assoc] using this
end Go.Proofs.YthblpjjocokphaaDoor.Sm.M
