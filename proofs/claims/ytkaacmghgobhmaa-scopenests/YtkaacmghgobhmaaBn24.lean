/- Texts: ScNj. -/
import Derived.Test.YtkaacmghgobhmaaBn17
namespace Go.Proofs.Ytkaacmghgobhmaa.Sc
set_option maxRecDepth 100000 in
theorem nests9tfttt : (rows 4).all (fun bs => okNest (true :: false :: true :: true :: true :: bs)) = true := by decide +kernel
set_option maxRecDepth 100000 in
theorem nests9tfttf : (rows 4).all (fun bs => okNest (true :: false :: true :: true :: false :: bs)) = true := by decide +kernel
set_option maxRecDepth 100000 in
theorem nests9tftft : (rows 4).all (fun bs => okNest (true :: false :: true :: false :: true :: bs)) = true := by decide +kernel
set_option maxRecDepth 100000 in
theorem nests9tftff : (rows 4).all (fun bs => okNest (true :: false :: true :: false :: false :: bs)) = true := by decide +kernel
set_option maxRecDepth 100000 in
theorem nests9tfftt : (rows 4).all (fun bs => okNest (true :: false :: false :: true :: true :: bs)) = true := by decide +kernel
set_option maxRecDepth 100000 in
theorem nests9tfftf : (rows 4).all (fun bs => okNest (true :: false :: false :: true :: false :: bs)) = true := by decide +kernel
set_option maxRecDepth 100000 in
theorem nests9tffft : (rows 4).all (fun bs => okNest (true :: false :: false :: false :: true :: bs)) = true := by decide +kernel
set_option maxRecDepth 100000 in
theorem nests9tffff : (rows 4).all (fun bs => okNest (true :: false :: false :: false :: false :: bs)) = true := by decide +kernel
end Go.Proofs.Ytkaacmghgobhmaa.Sc
