/- What the library knows of its own functions, at this program: the bodies are the same, so its contracts hold. -/
import Derived.Shelf.Sort.Plain
import Derived.Shelf.Slices.In.SortNone
import Derived.Test.YtplbebfiebojhaaProg
namespace Go.Proofs
open Go.Shelf
def Try.lays189_ren : Go.Shelf.Ren := ⟨fun | 189 => 18 | 125 => 21 | 257 => 20 | 128 => 31 | 129 => 32 | 294 => 22 | 295 => 23 | 296 => 24 | 297 => 25 | 298 => 26 | 299 => 27 | 216 => 28 | 300 => 29 | 301 => 30 | 328 => 33 | 329 => 34 | 330 => 35 | 331 => 36 | 332 => 37 | 215 => 38 | 343 => 39 | n => n, fun | 28 => 22 | 3 => 3 | 46 => 33 | 0 => 0 | 51 => 31 | 53 => 53 | 4 => 4 | 183 => 44 | 182 => 43 | 131 => 49 | 5 => 5 | 9 => 9 | 218 => 54 | 222 => 58 | 228 => 61 | 229 => 62 | n => n, fun | n => n⟩
theorem Try.lays189 : Go.Proofs.Lays.n189 Try.prog Try.lays189_ren := {
  mixed := by kernel_rfl
  f125 := Try.func21.trans (congrArg some (by kernel_rfl))
  f128 := Try.func31.trans (congrArg some (by kernel_rfl))
  f129 := Try.func32.trans (congrArg some (by kernel_rfl))
  f189 := Try.func18.trans (congrArg some (by kernel_rfl))
  f215 := Try.func38.trans (congrArg some (by kernel_rfl))
  f216 := Try.func28.trans (congrArg some (by kernel_rfl))
  f257 := Try.func20.trans (congrArg some (by kernel_rfl))
  f294 := Try.func22.trans (congrArg some (by kernel_rfl))
  f295 := Try.func23.trans (congrArg some (by kernel_rfl))
  f296 := Try.func24.trans (congrArg some (by kernel_rfl))
  f297 := Try.func25.trans (congrArg some (by kernel_rfl))
  f298 := Try.func26.trans (congrArg some (by kernel_rfl))
  f299 := Try.func27.trans (congrArg some (by kernel_rfl))
  f300 := Try.func29.trans (congrArg some (by kernel_rfl))
  f301 := Try.func30.trans (congrArg some (by kernel_rfl))
  f328 := Try.func33.trans (congrArg some (by kernel_rfl))
  f329 := Try.func34.trans (congrArg some (by kernel_rfl))
  f330 := Try.func35.trans (congrArg some (by kernel_rfl))
  f331 := Try.func36.trans (congrArg some (by kernel_rfl))
  f332 := Try.func37.trans (congrArg some (by kernel_rfl))
  f343 := Try.func39.trans (congrArg some (by kernel_rfl))
  t0 := Try.underlying0
  a0 := Try.isAgg0
  z0 := Try.sizeOf0
  v0 := Try.zeroValue0
  t3 := Try.underlying3
  a3 := Try.isAgg3
  z3 := Try.sizeOf3
  v3 := Try.zeroValue3
  t4 := Try.underlying4
  a4 := Try.isAgg4
  z4 := Try.sizeOf4
  v4 := Try.zeroValue4
  t5 := Try.underlying5
  a5 := Try.isAgg5
  z5 := Try.sizeOf5
  v5 := Try.zeroValue5
  t9 := Try.underlying9
  a9 := Try.isAgg9
  z9 := Try.sizeOf9
  v9 := Try.zeroValue9
  t28 := Try.underlying22
  a28 := Try.isAgg22
  z28 := Try.sizeOf22
  v28 := Try.zeroValue22
  t46 := Try.underlying33
  a46 := Try.isAgg33
  z46 := Try.sizeOf33
  v46 := Try.zeroValue33
  t51 := Try.underlying31
  a51 := Try.isAgg31
  z51 := Try.sizeOf31
  v51 := Try.zeroValue31
  t53 := Try.underlying53
  a53 := Try.isAgg53
  z53 := Try.sizeOf53
  v53 := Try.zeroValue53
  t131 := Try.underlying49
  a131 := Try.isAgg49
  z131 := Try.sizeOf49
  v131 := Try.zeroValue49
  t182 := Try.underlying43
  a182 := Try.isAgg43
  z182 := Try.sizeOf43
  v182 := Try.zeroValue43
  t183 := Try.underlying44
  a183 := Try.isAgg44
  z183 := Try.sizeOf44
  v183 := Try.zeroValue44
  t218 := Try.underlying54
  a218 := Try.isAgg54
  z218 := Try.sizeOf54
  v218 := Try.zeroValue54
  t222 := Try.underlying58
  a222 := Try.isAgg58
  z222 := Try.sizeOf58
  v222 := Try.zeroValue58
  t228 := Try.underlying61
  a228 := Try.isAgg61
  z228 := Try.sizeOf61
  v228 := Try.zeroValue61
  t229 := Try.underlying62
  a229 := Try.isAgg62
  z229 := Try.sizeOf62
  v229 := Try.zeroValue62 }
open Go.Sort Go.RowKit in
theorem Try.slices_Sort_int (blk off cap : Nat) (zs : List Int) (w : World) (hH : Holds (Value.int .i64) w blk off zs.toArray) (hblk : blk < w.heap.size) (hsz : zs.length < 4611686018427387904) :
    Calls Try.prog 18 #[.slice (some ⟨blk, off, none⟩) zs.length cap] w fun e w' =>
      e = .returned (.tuple #[]) ∧ ∃ n os, w' = grow (putRow (Value.int .i64) (Sort.ahead w n) blk off (zs.mergeSort fun x y => decide (x ≤ y)).toArray) os := Any.slices_Sort_int Try.lays189 blk off cap zs w hH hblk hsz
open Go.RowKit Go.Sort in
theorem Try.slices_Sort_int_none (p : Option Addr) (cap : Nat) (w : World) :
    Calls Try.prog 18 #[.slice p 0 cap] w fun e w' => e = .returned (.tuple #[]) ∧ w' = w := Any.slices_Sort_int_none Try.lays189 p cap w
end Go.Proofs
