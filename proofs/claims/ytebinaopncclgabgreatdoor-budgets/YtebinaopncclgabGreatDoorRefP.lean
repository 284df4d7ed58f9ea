/- Plain mathematics of the document's answer: splitting. No program in sight. -/
import Derived.Test.YtebinaopncclgabGreatDoorPlainC
namespace Go.Proofs.YtebinaopncclgabGreatDoor
open Go.RowKit

theorem hid {p : Prop} (h : p) : Hid p := h

end Go.Proofs.YtebinaopncclgabGreatDoor
