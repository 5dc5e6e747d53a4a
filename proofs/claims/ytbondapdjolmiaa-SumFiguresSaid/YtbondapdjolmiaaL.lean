import Derived.Test.YtbondapdjolmiaaK
namespace Go.Proofs.Ytbondapdjolmiaa
open Go.RowKit
theorem u32_of {a : Int} (h : (Lit.int .u32 a).wf = true) : ∃ n : Nat, a = (n : Int) ∧ n < 4294967296 := by
  have : 0 ≤ a ∧ a ≤ 4294967295 := by
    simpa [Lit.wf, IntKind.min, IntKind.max, IntKind.signed, IntKind.bits] using h
  exact ⟨a.toNat, by omega, by omega⟩
theorem sums_walk (a b : ByteArray) (x : Int) (w : World) (ha : a.size ≤ maxLen) (hb : b.size ≤ maxLen) (hx : (Lit.int .u32 x).wf = true) :
    Calls Try.prog 3 #[.string a, .string b, .int .u32 x] w fun e w' => e = .returned (.bool true) ∧ Below w.heap.size w w' := by
  obtain ⟨n, rfl, hn⟩ := u32_of hx
  exact sums_any a b n hn ha hb w
theorem figLaw_walk (a b : Int) (t : ByteArray) (w : World) (ha : (Lit.int .u32 a).wf = true) (hb : (Lit.int .u32 b).wf = true) (ht : t.size ≤ maxLen) :
    Calls Try.prog 5 #[.int .u32 a, .int .u32 b, .string t] w fun e w' => e = .returned (.bool true) ∧ Below w.heap.size w w' := by
  obtain ⟨n, rfl, hn⟩ := u32_of ha
  obtain ⟨m, rfl, hm⟩ := u32_of hb
  exact figLaw_any n m hn hm t ht w
theorem asks_walk (f a b : ByteArray) (w : World) (_hf : f.size ≤ maxLen) (ha : a.size ≤ maxLen) (hb : b.size ≤ maxLen) :
    Calls Try.prog 7 #[.string f, .string a, .string b] w fun e w' => e = .returned (.bool true) ∧ Below w.heap.size w w' := asks_any f a b ha hb w
end Go.Proofs.Ytbondapdjolmiaa
