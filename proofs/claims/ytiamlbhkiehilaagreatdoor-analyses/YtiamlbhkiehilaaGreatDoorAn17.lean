import Derived.Test.YtiamlbhkiehilaaGreatDoorAn16
import Derived.Deep.AppendLies
import Derived.Deep.RegionLaw
namespace Go.Proofs.YtiamlbhkiehilaaGreatDoor
section
open Go.RowKit Go.Maps
end
end Go.Proofs.YtiamlbhkiehilaaGreatDoor
