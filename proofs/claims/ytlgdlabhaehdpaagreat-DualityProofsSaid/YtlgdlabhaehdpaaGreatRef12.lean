/- Contracts: Parse of the specification of layer 1, every string. -/
import Derived.Test.YtlgdlabhaehdpaaGreatRef11
namespace Go.Proofs.YtlgdlabhaehdpaaGreat
open Go.RowKit

theorem nonempty_bytes {s : ByteArray} (h0 : 0 < s.size) : s.toList.isEmpty = false := by
  rw [ByteArray.toList_eq]
  cases h : s.data.toList with
  | nil => have h1 : s.data.toList.length = 0 := by rw [h]; rfl
           have h2 : s.size = 0 := h1
           omega
  | cons a l => rfl

end Go.Proofs.YtlgdlabhaehdpaaGreat
