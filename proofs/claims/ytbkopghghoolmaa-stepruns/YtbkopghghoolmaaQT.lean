/- Which types' blocks may be written by others than a code's own steps. -/
import Derived.Test.YtbkopghghoolmaaMem
namespace Go.Proofs.Ytbkopghghoolmaa

/-- tasks, and slices of them, and of the document's. -/
def loose : List TypeId := [67, 38, 46]
theorem task_loose : 67 ∈ loose := by decide
end Go.Proofs.Ytbkopghghoolmaa
