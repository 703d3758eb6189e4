/- Texts: ScNa. -/
import Derived.Test.YtkaacmghgobhmaaBn17
namespace Go.Proofs.Ytkaacmghgobhmaa.Sc
set_option maxRecDepth 100000 in
theorem nests0 : (rows 0).all okNest = true := by decide +kernel
set_option maxRecDepth 100000 in
theorem nests1 : (rows 1).all okNest = true := by decide +kernel
set_option maxRecDepth 100000 in
theorem nests2 : (rows 2).all okNest = true := by decide +kernel
set_option maxRecDepth 100000 in
theorem nests3 : (rows 3).all okNest = true := by decide +kernel
set_option maxRecDepth 100000 in
theorem nests4 : (rows 4).all okNest = true := by decide +kernel
set_option maxRecDepth 100000 in
theorem nests5 : (rows 5).all okNest = true := by decide +kernel
set_option maxRecDepth 100000 in
theorem nests6 : (rows 6).all okNest = true := by decide +kernel
end Go.Proofs.Ytkaacmghgobhmaa.Sc
