import Derived.Test.YtiamlbhkiehilaaGreatDoorAn16
import Derived.Test.YtiamlbhkiehilaaGreatDoorAn17
namespace Go.Proofs.YtiamlbhkiehilaaGreatDoor
section
open Go.RowKit Go.Maps
theorem infoRow:(Tryz.prog.info? 51).map (fun i=>(i.zero,i.size,i.bytes))=some (some (.agg #[.string ⟨#[]⟩,.slice none 0 0]),2,40):=by kernel_rfl
end
end Go.Proofs.YtiamlbhkiehilaaGreatDoor
