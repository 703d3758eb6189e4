/- Texts: ScNl. -/
import Derived.Test.YtkaacmghgobhmaaBn17
namespace Go.Proofs.Ytkaacmghgobhmaa.Sc
set_option maxRecDepth 100000 in
theorem nests9ffttt : (rows 4).all (fun bs => okNest (false :: false :: true :: true :: true :: bs)) = true := by decide +kernel
set_option maxRecDepth 100000 in
theorem nests9ffttf : (rows 4).all (fun bs => okNest (false :: false :: true :: true :: false :: bs)) = true := by decide +kernel
set_option maxRecDepth 100000 in
theorem nests9fftft : (rows 4).all (fun bs => okNest (false :: false :: true :: false :: true :: bs)) = true := by decide +kernel
set_option maxRecDepth 100000 in
theorem nests9fftff : (rows 4).all (fun bs => okNest (false :: false :: true :: false :: false :: bs)) = true := by decide +kernel
set_option maxRecDepth 100000 in
theorem nests9ffftt : (rows 4).all (fun bs => okNest (false :: false :: false :: true :: true :: bs)) = true := by decide +kernel
set_option maxRecDepth 100000 in
theorem nests9ffftf : (rows 4).all (fun bs => okNest (false :: false :: false :: true :: false :: bs)) = true := by decide +kernel
set_option maxRecDepth 100000 in
theorem nests9fffft : (rows 4).all (fun bs => okNest (false :: false :: false :: false :: true :: bs)) = true := by decide +kernel
set_option maxRecDepth 100000 in
theorem nests9fffff : (rows 4).all (fun bs => okNest (false :: false :: false :: false :: false :: bs)) = true := by decide +kernel
end Go.Proofs.Ytkaacmghgobhmaa.Sc
