/- The contract of the reference's MulNat. -/
import Derived.Test.YtpchnejdbmoicaaDoorWM
import Derived.Test.YtpchnejdbmoicaaDoorR1
namespace Go.Proofs.YtpchnejdbmoicaaDoor
open Go.RowKit Cin

theorem keep_drewN {S : Nat → Prop} {w w' : World} (h : Keep S w w') (n : Nat) : Keep S w (w'.drewN n) := ⟨h.os, h.tape, h.output, h.size, h.block⟩

end Go.Proofs.YtpchnejdbmoicaaDoor
