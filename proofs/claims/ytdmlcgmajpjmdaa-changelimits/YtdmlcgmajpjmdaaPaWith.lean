/-
  path.Within: what is within a path.
-/
import Derived.Test.YtdmlcgmajpjmdaaPaComp
namespace Go.Proofs.Ytdmlcgmajpjmdaa
open Go.RowKit

theorem str_toList (l : List UInt8) : (str l).toList = l := by rw [Go.ByteArray.toList_eq, str_data]
theorem str_full {d : List UInt8} (h : d ≠ []) : (str d).toList.isEmpty = false := by rw [str_toList]; cases d <;> simp_all
theorem str_void : (str []).toList.isEmpty = true := by rw [str_toList]; rfl


end Go.Proofs.Ytdmlcgmajpjmdaa
