/- The limits. -/
import Derived.Test.YtlchefdddgbohaaDoorLen
import Derived.Test.YtlchefdddgbohaaDoorRefF
namespace Go.Proofs.YtlchefdddgbohaaDoor
open Go.ChangeShapes Go.WideShapes Go.ChangeAt Go.RowKit
set_option linter.unusedVariables false
set_option maxRecDepth 100000

theorem aMax0 : aMax 0 = 0 := by decide +kernel
theorem aMax1 : aMax 1 = 0 := by decide +kernel
theorem aMax2 : aMax 2 = 7 := by decide +kernel
theorem aMax3 : aMax 3 = 3 := by decide +kernel
theorem aMax4 : aMax 4 = 7 := by decide +kernel
theorem aMax5 : aMax 5 = 3 := by decide +kernel
theorem aMax6 : aMax 6 = 7 := by decide +kernel
theorem aMax7 : aMax 7 = 3 := by decide +kernel
theorem aMax8 : aMax 8 = 7 := by decide +kernel
theorem aMax9 : aMax 9 = 0 := by decide +kernel
theorem aMax10 : aMax 10 = 7 := by decide +kernel
theorem aMax11 : aMax 11 = 7 := by decide +kernel
theorem aMax12 : aMax 12 = 0 := by decide +kernel
theorem aMax13 : aMax 13 = 7 := by decide +kernel
theorem bMax0 : bMax 0 = 0 := by decide +kernel
theorem bMax1 : bMax 1 = 0 := by decide +kernel
theorem bMax2 : bMax 2 = 0 := by decide +kernel
theorem bMax3 : bMax 3 = 0 := by decide +kernel
theorem bMax4 : bMax 4 = 7 := by decide +kernel
theorem bMax5 : bMax 5 = 3 := by decide +kernel
theorem bMax6 : bMax 6 = 3 := by decide +kernel
theorem bMax7 : bMax 7 = 7 := by decide +kernel
theorem bMax8 : bMax 8 = 0 := by decide +kernel
theorem bMax9 : bMax 9 = 0 := by decide +kernel
theorem bMax10 : bMax 10 = 0 := by decide +kernel
theorem bMax11 : bMax 11 = 0 := by decide +kernel
theorem bMax12 : bMax 12 = 0 := by decide +kernel
theorem bMax13 : bMax 13 = 0 := by decide +kernel
theorem nMin0 : nMin 0 = 0 := by decide +kernel
theorem nMin1 : nMin 1 = 0 := by decide +kernel
theorem nMin2 : nMin 2 = 0 := by decide +kernel
theorem nMin3 : nMin 3 = 0 := by decide +kernel
theorem nMin4 : nMin 4 = 0 := by decide +kernel
theorem nMin5 : nMin 5 = 0 := by decide +kernel
theorem nMin6 : nMin 6 = 0 := by decide +kernel
theorem nMin7 : nMin 7 = 0 := by decide +kernel
theorem nMin8 : nMin 8 = -128 := by decide +kernel
theorem nMin9 : nMin 9 = 0 := by decide +kernel
theorem nMin10 : nMin 10 = -2147483648 := by decide +kernel
theorem nMin11 : nMin 11 = 0 := by decide +kernel
theorem nMin12 : nMin 12 = 0 := by decide +kernel
theorem nMin13 : nMin 13 = 0 := by decide +kernel
theorem nMax0 : nMax 0 = 0 := by decide +kernel
theorem nMax1 : nMax 1 = 0 := by decide +kernel
theorem nMax2 : nMax 2 = 0 := by decide +kernel
theorem nMax3 : nMax 3 = 0 := by decide +kernel
theorem nMax4 : nMax 4 = 0 := by decide +kernel
theorem nMax5 : nMax 5 = 0 := by decide +kernel
theorem nMax6 : nMax 6 = 0 := by decide +kernel
theorem nMax7 : nMax 7 = 7 := by decide +kernel
theorem nMax8 : nMax 8 = 127 := by decide +kernel
theorem nMax9 : nMax 9 = 255 := by decide +kernel
theorem nMax10 : nMax 10 = 2147483647 := by decide +kernel
theorem nMax11 : nMax 11 = 4095 := by decide +kernel
theorem nMax12 : nMax 12 = 0 := by decide +kernel
theorem nMax13 : nMax 13 = 0 := by decide +kernel
end Go.Proofs.YtlchefdddgbohaaDoor
