/- Functions that tell which sets are kept. -/
import Derived.Test.YtkpmgdhaollheaaGF
import Derived.Test.YtkpmgdhaollheaaIC
namespace Go.Proofs.Ytkpmgdhaollheaa
open Go.RowKit

/-- A function value that tells which sets are kept. -/
structure KeepAt (k : Int → Bool) (g : Nat) : Prop where
  enter : ∀ args w, (callFunc g args).run Try.prog w = .ok (.enter g args) w
  says : ∀ m w, Calls Try.prog g #[.int .i64 m] w fun e w' => e = .returned (.bool (k m)) ∧ w = w'

end Go.Proofs.Ytkpmgdhaollheaa
