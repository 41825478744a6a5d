/- Contracts of nat's Shl, shiftDown, Shr. -/
import Derived.Test.YtfhilapjpabeeabDoorW4
import Derived.Deep.RegionHeld3
namespace Go.Proofs.YtfhilapjpabeeabDoor
open Go.RowKit Cin

theorem info_u32 : (Tryd.prog.info? 80).map (fun i => (i.zero, i.size, i.bytes)) = some (some (.int .u32 0), 1, 4) := by kernel_rfl

end Go.Proofs.YtfhilapjpabeeabDoor
