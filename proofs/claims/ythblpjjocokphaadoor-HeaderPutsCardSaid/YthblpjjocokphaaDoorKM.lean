/- Keys and kinds of lines, plainly. -/
import Derived.Test.YthblpjjocokphaaDoorLM
namespace Go.Proofs.YthblpjjocokphaaDoor

def blankB (c : UInt8) : Bool := c == 32 || c == 9
def beginsB : List UInt8 → Bool
  | [] => false
  | c :: _ => blankB c
def hashB : List UInt8 → Bool
  | [] => false
  | c :: _ => c == 35
def hasB (l : List UInt8) (c : UInt8) : Bool := l.contains c
def blankAll (l : List UInt8) : Bool := l.all blankB
def goodKey (k : List UInt8) : Bool := decide (1 ≤ k.length) && decide (k.length ≤ 32) && !beginsB k && !hashB k && !hasB k 58 && !hasB k 10
def before (l : List UInt8) : List UInt8 := l.takeWhile (· != 58)
def kindL (l : List UInt8) : Nat :=
  if hasB l 10 = true then 5 else if blankAll l = true then 1 else if hashB l = true then 2 else if beginsB l = true then 3 else if hasB l 58 = true ∧ goodKey (before l) = true then 4 else 5

theorem all_blank_cons {l : List UInt8} (h : blankAll l = false) : ∃ c t, l = c :: t := by
  cases l with
  | nil => simp [blankAll] at h
  | cons c t => exact ⟨c, t, rfl⟩
end Go.Proofs.YthblpjjocokphaaDoor
