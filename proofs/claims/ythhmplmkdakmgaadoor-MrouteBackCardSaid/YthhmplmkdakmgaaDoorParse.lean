/-
  What read, Parse, PrefixText and ParsePrefix of package addr do. The conditions: the text is no longer than 2,000,000 bytes, and the library's tables hold what its text lays.
-/
import Derived.Test.YthhmplmkdakmgaaDoorRead
import Derived.Test.YthhmplmkdakmgaaDoorText
import Derived.Test.YthhmplmkdakmgaaDoorAddr3
namespace Go.Proofs.YthhmplmkdakmgaaDoor
open Go.RowKit
set_option linter.unusedVariables false
set_option linter.unusedSimpArgs false

theorem read4_len (s : List UInt8) : (read4 s).2.1.length = 16 := by
  unfold read4
  split
  · split
    · rename_i row h4
      exact ofB_len _ (by rw [flat_len, h4]; decide)
    · rfl
  · rfl
theorem read6_len (s : List UInt8) : (read6 s).2.1.length = 16 := by
  unfold read6 six2
  split
  · rfl
  · split
    · rfl
    · split
      · rename_i h
        exact ofB_len _ (by rw [flat_len]; simp; omega)
      · rfl
theorem readA_len (s : List UInt8) : (readA s).2.1.length = 16 := by
  unfold readA
  split
  · rfl
  · split
    · exact read6_len s
    · exact read4_len s
/-- an address and an error -/
def parseA (s : List UInt8) : Int × List UInt8 × Int := if (readA s).2.2 = true ∧ textA (readA s).1 (readA s).2.1 = s then ((readA s).1, (readA s).2.1, 0) else (0, zero16, 4)
def PaPost (R : Int × List UInt8 × Int) (w : World) (e : Ending) (w' : World) : Prop := e = .returned (.tuple #[.agg (addrC R.1 R.2.1), .int .i64 R.2.2]) ∧ Below w.heap.size w w'
theorem parseA_len (s : List UInt8) : (parseA s).2.1.length = 16 := by
  unfold parseA
  split
  · exact readA_len s
  · rfl
end Go.Proofs.YthhmplmkdakmgaaDoor
