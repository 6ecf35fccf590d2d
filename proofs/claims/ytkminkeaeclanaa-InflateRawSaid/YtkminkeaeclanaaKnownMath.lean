/- The chapter's examples, plainly. -/
import Derived.Test.YtkminkeaeclanaaSpec
namespace Go.Proofs.Ytkminkeaeclanaa
namespace Plain
deriving instance DecidableEq for Except
theorem known_r1 : rawOf [75, 4, 0] 9 = .ok (18, [97]) := by decide +kernel
theorem known_r2 : rawOf [1, 1, 0, 254, 255, 97, 98] 9 = .ok (48, [97]) := by decide +kernel
theorem known_r3 : rawOf [75, 76, 76, 4, 0] 2 = .error 2 := by decide +kernel
end Plain
end Go.Proofs.Ytkminkeaeclanaa
