/- Texts: ScNi. -/
import Derived.Test.YtkaacmghgobhmaaBn17
namespace Go.Proofs.Ytkaacmghgobhmaa.Sc
set_option maxRecDepth 100000 in
theorem nests9ttttt : (rows 4).all (fun bs => okNest (true :: true :: true :: true :: true :: bs)) = true := by decide +kernel
set_option maxRecDepth 100000 in
theorem nests9ttttf : (rows 4).all (fun bs => okNest (true :: true :: true :: true :: false :: bs)) = true := by decide +kernel
set_option maxRecDepth 100000 in
theorem nests9tttft : (rows 4).all (fun bs => okNest (true :: true :: true :: false :: true :: bs)) = true := by decide +kernel
set_option maxRecDepth 100000 in
theorem nests9tttff : (rows 4).all (fun bs => okNest (true :: true :: true :: false :: false :: bs)) = true := by decide +kernel
set_option maxRecDepth 100000 in
theorem nests9ttftt : (rows 4).all (fun bs => okNest (true :: true :: false :: true :: true :: bs)) = true := by decide +kernel
set_option maxRecDepth 100000 in
theorem nests9ttftf : (rows 4).all (fun bs => okNest (true :: true :: false :: true :: false :: bs)) = true := by decide +kernel
set_option maxRecDepth 100000 in
theorem nests9ttfft : (rows 4).all (fun bs => okNest (true :: true :: false :: false :: true :: bs)) = true := by decide +kernel
set_option maxRecDepth 100000 in
theorem nests9ttfff : (rows 4).all (fun bs => okNest (true :: true :: false :: false :: false :: bs)) = true := by decide +kernel
end Go.Proofs.Ytkaacmghgobhmaa.Sc
