/-
  Rows of bytes, plain.
-/
import Derived.WalkKit
namespace Go.Proofs.Ytknjkkdoeanhbaa

abbrev Bs := List UInt8

end Go.Proofs.Ytknjkkdoeanhbaa
