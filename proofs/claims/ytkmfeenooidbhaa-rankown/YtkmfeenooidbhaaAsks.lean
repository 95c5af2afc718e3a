/- What an ask has. -/
import Derived.Test.YtkmfeenooidbhaaBase
namespace Go.Proofs.Ytkmfeenooidbhaa

structure Q3 where
  who : Int
  r : Int
  b : Bool
end Go.Proofs.Ytkmfeenooidbhaa
