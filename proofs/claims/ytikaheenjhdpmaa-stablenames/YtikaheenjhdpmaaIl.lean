/-
  strings.IndexAny is what the shelf was made over: its bodies and types, one by one.
-/
import Derived.Shelf.Strings.IndexAnyAll
import Derived.Test.YtikaheenjhdpmaaProg
namespace Go.Proofs.Ytikaheenjhdpmaa
open Go.Shelf
def lays153_ren : Go.Shelf.Ren := ⟨fun | 153 => 60 | 152 => 66 | 226 => 67 | 227 => 68 | 228 => 69 | 137 => 59 | 119 => 76 | 224 => 77 | 225 => 78 | 217 => 65 | 266 => 75 | n => n, fun | 9 => 9 | 3 => 3 | 4 => 4 | 5 => 5 | 21 => 21 | 117 => 113 | 116 => 112 | 0 => 0 | 46 => 119 | 124 => 120 | n => n, fun | n => n⟩
theorem lays153 : Go.Proofs.Lays.n153 Try.prog lays153_ren := {
  mixed := by kernel_rfl
  f119 := Try.func76.trans (congrArg some (by kernel_rfl))
  f137 := Try.func59.trans (congrArg some (by kernel_rfl))
  f152 := Try.func66.trans (congrArg some (by kernel_rfl))
  f153 := Try.func60.trans (congrArg some (by kernel_rfl))
  f217 := Try.func65.trans (congrArg some (by kernel_rfl))
  f224 := Try.func77.trans (congrArg some (by kernel_rfl))
  f225 := Try.func78.trans (congrArg some (by kernel_rfl))
  f226 := Try.func67.trans (congrArg some (by kernel_rfl))
  f227 := Try.func68.trans (congrArg some (by kernel_rfl))
  f228 := Try.func69.trans (congrArg some (by kernel_rfl))
  f266 := Try.func75.trans (congrArg some (by kernel_rfl))
  t0 := Try.underlying0
  a0 := Try.isAgg0
  z0 := Try.sizeOf0
  v0 := Try.zeroValue0
  t3 := Try.underlying3
  a3 := Try.isAgg3
  z3 := Try.sizeOf3
  v3 := Try.zeroValue3
  t4 := Try.underlying4
  a4 := Try.isAgg4
  z4 := Try.sizeOf4
  v4 := Try.zeroValue4
  t5 := Try.underlying5
  a5 := Try.isAgg5
  z5 := Try.sizeOf5
  v5 := Try.zeroValue5
  t9 := Try.underlying9
  a9 := Try.isAgg9
  z9 := Try.sizeOf9
  v9 := Try.zeroValue9
  t21 := Try.underlying21
  a21 := Try.isAgg21
  z21 := Try.sizeOf21
  v21 := Try.zeroValue21
  t46 := Try.underlying119
  a46 := Try.isAgg119
  z46 := Try.sizeOf119
  v46 := Try.zeroValue119
  t116 := Try.underlying112
  a116 := Try.isAgg112
  z116 := Try.sizeOf112
  t117 := Try.underlying113
  a117 := Try.isAgg113
  z117 := Try.sizeOf113
  v117 := Try.zeroValue113
  t124 := Try.underlying120
  a124 := Try.isAgg120
  z124 := Try.sizeOf120
  v124 := Try.zeroValue120 }
end Go.Proofs.Ytikaheenjhdpmaa
