/- Texts: ScNk. -/
import Derived.Test.YtkaacmghgobhmaaBn17
namespace Go.Proofs.Ytkaacmghgobhmaa.Sc
set_option maxRecDepth 100000 in
theorem nests9ftttt : (rows 4).all (fun bs => okNest (false :: true :: true :: true :: true :: bs)) = true := by decide +kernel
set_option maxRecDepth 100000 in
theorem nests9ftttf : (rows 4).all (fun bs => okNest (false :: true :: true :: true :: false :: bs)) = true := by decide +kernel
set_option maxRecDepth 100000 in
theorem nests9fttft : (rows 4).all (fun bs => okNest (false :: true :: true :: false :: true :: bs)) = true := by decide +kernel
set_option maxRecDepth 100000 in
theorem nests9fttff : (rows 4).all (fun bs => okNest (false :: true :: true :: false :: false :: bs)) = true := by decide +kernel
set_option maxRecDepth 100000 in
theorem nests9ftftt : (rows 4).all (fun bs => okNest (false :: true :: false :: true :: true :: bs)) = true := by decide +kernel
set_option maxRecDepth 100000 in
theorem nests9ftftf : (rows 4).all (fun bs => okNest (false :: true :: false :: true :: false :: bs)) = true := by decide +kernel
set_option maxRecDepth 100000 in
theorem nests9ftfft : (rows 4).all (fun bs => okNest (false :: true :: false :: false :: true :: bs)) = true := by decide +kernel
set_option maxRecDepth 100000 in
theorem nests9ftfff : (rows 4).all (fun bs => okNest (false :: true :: false :: false :: false :: bs)) = true := by decide +kernel
end Go.Proofs.Ytkaacmghgobhmaa.Sc
