/- What the cards of stage 12 want. -/
import Derived.Test.YthblpjjocokphaaDoorMF
namespace Go.Proofs.YthblpjjocokphaaDoor.Hd
open Go.RowKit Go.Shelf
theorem takesCall (s : ByteArray) (w : World) (hs : s.size ≤ maxLen) (ht : Tab w) :
    Calls Tryd.prog 4 #[.string s] w fun e w' => e = .returned (.bool true) ∧ Below w.heap.size w w' := takesLaw s hs w ht
theorem putsCall (n : Int) (s : ByteArray) (w : World) (_ : (Lit.int .i64 n).wf = true) (hs : s.size ≤ maxLen) (ht : Tab w) :
    Calls Tryd.prog 3 #[.int .i64 n, .string s] w fun e w' => e = .returned (.bool true) ∧ Below w.heap.size w w' := putsLaw n s hs w ht
end Go.Proofs.YthblpjjocokphaaDoor.Hd
