/- Texts: ScNd. -/
import Derived.Test.YtkaacmghgobhmaaBn17
namespace Go.Proofs.Ytkaacmghgobhmaa.Sc
set_option maxRecDepth 100000 in
theorem nests8ftt : (rows 5).all (fun bs => okNest (false :: true :: true :: bs)) = true := by decide +kernel
set_option maxRecDepth 100000 in
theorem nests8ftf : (rows 5).all (fun bs => okNest (false :: true :: false :: bs)) = true := by decide +kernel
set_option maxRecDepth 100000 in
theorem nests8fft : (rows 5).all (fun bs => okNest (false :: false :: true :: bs)) = true := by decide +kernel
set_option maxRecDepth 100000 in
theorem nests8fff : (rows 5).all (fun bs => okNest (false :: false :: false :: bs)) = true := by decide +kernel
end Go.Proofs.Ytkaacmghgobhmaa.Sc
