/- Texts: ScNb. -/
import Derived.Test.YtkaacmghgobhmaaBn17
namespace Go.Proofs.Ytkaacmghgobhmaa.Sc
set_option maxRecDepth 100000 in
theorem nests7tt : (rows 5).all (fun bs => okNest (true :: true :: bs)) = true := by decide +kernel
set_option maxRecDepth 100000 in
theorem nests7tf : (rows 5).all (fun bs => okNest (true :: false :: bs)) = true := by decide +kernel
set_option maxRecDepth 100000 in
theorem nests7ft : (rows 5).all (fun bs => okNest (false :: true :: bs)) = true := by decide +kernel
set_option maxRecDepth 100000 in
theorem nests7ff : (rows 5).all (fun bs => okNest (false :: false :: bs)) = true := by decide +kernel
end Go.Proofs.Ytkaacmghgobhmaa.Sc
