/-
  bigint: signs, digits, checks.
-/
import Derived.Test.YtmogmneaomndeaaDoorShelfP
import Derived.Test.YtmogmneaomndeaaDoorDigits
import Derived.Test.YtmogmneaomndeaaDoorMathInt
namespace Go.Proofs.YtmogmneaomndeaaDoor
open Go Go.Proofs Go.RowKit

/-- A list of bytes as a string. -/
def str (l : List UInt8) : ByteArray := ⟨l.toArray⟩
theorem bytes_str (l : List UInt8) : bytes (str l) = l := by simp [bytes, str]
theorem str_bytes (s : ByteArray) : str (bytes s) = s := by simp [bytes, str]
theorem str_size (l : List UInt8) : (str l).size = l.length := by simp [str, ByteArray.size]

end Go.Proofs.YtmogmneaomndeaaDoor
