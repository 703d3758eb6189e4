/- Texts: ScNc. -/
import Derived.Test.YtkaacmghgobhmaaBn17
namespace Go.Proofs.Ytkaacmghgobhmaa.Sc
set_option maxRecDepth 100000 in
theorem nests8ttt : (rows 5).all (fun bs => okNest (true :: true :: true :: bs)) = true := by decide +kernel
set_option maxRecDepth 100000 in
theorem nests8ttf : (rows 5).all (fun bs => okNest (true :: true :: false :: bs)) = true := by decide +kernel
set_option maxRecDepth 100000 in
theorem nests8tft : (rows 5).all (fun bs => okNest (true :: false :: true :: bs)) = true := by decide +kernel
set_option maxRecDepth 100000 in
theorem nests8tff : (rows 5).all (fun bs => okNest (true :: false :: false :: bs)) = true := by decide +kernel
end Go.Proofs.Ytkaacmghgobhmaa.Sc
