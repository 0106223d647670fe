/- The reference of stage 13: Hull. -/
import Derived.Test.YtcadbenjgpohoaaZonD
import Derived.Test.YtcadbenjgpohoaaZonC
namespace Go.Proofs.Ytcadbenjgpohoaa
open Go.RowKit

def clsAt (a b : Int) (u x : Nat) (j : Nat) : Int := clsN (if j < 2 then a else b) (if j % 2 = 0 then u else x)
def lowK (a b : Int) (u x : Nat) : Nat → Int
  | 0 => 5
  | j + 1 => min (lowK a b u x j) (clsAt a b u x j)
def topK (a b : Int) (u x : Nat) : Nat → Int
  | 0 => -5
  | j + 1 => max (topK a b u x j) (clsAt a b u x j)
theorem lowK_all (a b : Int) (u x : Nat) : lowK a b u x 4 = leastN a b u x := by
  have h1 := clsN_bounds a u; have h2 := clsN_bounds a x; have h3 := clsN_bounds b u; have h4 := clsN_bounds b x
  show min (min (min (min 5 (clsN a u)) (clsN a x)) (clsN b u)) (clsN b x) = _
  unfold leastN
  omega
theorem topK_all (a b : Int) (u x : Nat) : topK a b u x 4 = mostN a b u x := by
  have h1 := clsN_bounds a u; have h2 := clsN_bounds a x; have h3 := clsN_bounds b u; have h4 := clsN_bounds b x
  show max (max (max (max (-5) (clsN a u)) (clsN a x)) (clsN b u)) (clsN b x) = _
  unfold mostN
  omega
end Go.Proofs.Ytcadbenjgpohoaa
