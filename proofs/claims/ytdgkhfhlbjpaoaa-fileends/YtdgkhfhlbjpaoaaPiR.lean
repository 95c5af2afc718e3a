
/- What the reference's pipes do when they are called; no conditions but lengths. -/
import Derived.Test.YtdgkhfhlbjpaoaaPiA
namespace Go.Proofs.Ytdgkhfhlbjpaoaa
open Go.RowKit
set_option maxRecDepth 100000
set_option linter.unusedSimpArgs false

end Go.Proofs.Ytdgkhfhlbjpaoaa

namespace Go.Proofs.Ytdgkhfhlbjpaoaa
open Go.RowKit
set_option maxRecDepth 100000
set_option linter.unusedSimpArgs false

end Go.Proofs.Ytdgkhfhlbjpaoaa

namespace Go.Proofs.Ytdgkhfhlbjpaoaa
open Go.RowKit
set_option maxRecDepth 100000
set_option linter.unusedSimpArgs false

end Go.Proofs.Ytdgkhfhlbjpaoaa
