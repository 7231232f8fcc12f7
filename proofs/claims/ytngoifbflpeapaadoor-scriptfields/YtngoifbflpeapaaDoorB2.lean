import Derived.Test.YtngoifbflpeapaaDoorB1
namespace Go.Proofs.YtngoifbflpeapaaDoor
open Go.RowKit Go.Maps
set_option maxRecDepth 100000

end Go.Proofs.YtngoifbflpeapaaDoor

