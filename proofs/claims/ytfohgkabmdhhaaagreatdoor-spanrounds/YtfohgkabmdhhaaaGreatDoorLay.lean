/- What the rows' list of variables gives; what is asked behind a call that only makes memory. -/
import Derived.Test.YtfohgkabmdhhaaaGreatDoorCards
import Derived.Test.YtfohgkabmdhhaaaGreatDoorTie
import Derived.Test.YtfohgkabmdhhaaaGreatDoorYc
import Derived.ProofKit
import Derived.OpenShut
import Derived.Deep.DeepHandedRow
import Derived.Lib.LaidTab
namespace Go.Proofs.YtfohgkabmdhhaaaGreatDoor
open Go.ChangeShapes Go.WideShapes Go.ChangeAt Go.RowKit

theorem own : ownKnob Tryz.prog.godebug = none := by kernel_rfl
theorem laidMet_tail {P : Program} {x : String × DataW Unit} {rest : List (String × DataW Unit)} {W : World} (h : laidMet P (x :: rest) W) : laidMet P rest W := by
  obtain ⟨ps, ⟨g', t', cs, fuel, p, q, hg', ht', hvar, hd, hq, rfl⟩, hnd, hall⟩ := h
  exact ⟨q, hq, (List.nodup_append.1 hnd).2.1, fun b off hm => hall b off (List.mem_append_right _ hm)⟩

def laidAll : List (String × DataW Unit) := [("math/bits.deBruijn32tab", Rows.laid_math_bits_deBruijn32tab), ("math/bits.deBruijn64tab", Rows.laid_math_bits_deBruijn64tab), ("internal/strconv.uint64pow10", Rows.laid_internal_strconv_uint64pow10)]
theorem tabs_of {W : World} (h : laidMetH Tryz.prog laidAll W) : Tabs W := by
  have h0 : laidMet Tryz.prog laidAll W := h
  constructor
  · exact Lib.tabIs_of_head (t := 209) (e := 5) (n := 32) glob32 (by kernel_rfl) Tryz.underlying209 Tryz.underlying5 (by kernel_rfl) (by kernel_rfl) h0
  · exact Lib.tabIs_of_head (g := 2) (t := 226) (e := 119) (n := 20) (by kernel_rfl) (by kernel_rfl) Tryz.underlying226 Tryz.underlying119 (by kernel_rfl) (by kernel_rfl) (laidMet_tail (laidMet_tail h0))

/-- A block whose cells hold other values. -/
def relaid (vs : Array Value) : Obj → Obj
  | .cells _ t frozen => .cells vs t frozen
  | o => o
/-- A world for the witnesses: the settled one, the tables holding what their initialisers lay. -/
noncomputable def laidWorld (os : Os) : World :=
  { World.holding Tryz.prog os ⟨#[], #[], []⟩ with heap := (((World.holding Tryz.prog os ⟨#[], #[], []⟩).heap.modify 1 (relaid (Lib.deBruijn32tab.map fun (x : Nat) => Value.int .u8 (x : Int)).toArray)).modify 3
      (relaid (Lib.deBruijn64tab.map fun (x : Nat) => Value.int .u8 (x : Int)).toArray)).modify 2 (relaid (Lib.pow10Tab.map fun x => Value.int .u64 x).toArray) }

end Go.Proofs.YtfohgkabmdhhaaaGreatDoor
