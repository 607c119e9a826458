/- Which types' blocks may be written by others than a code's own steps. -/
import Derived.Test.YtgnfgpengoafkaaMem
namespace Go.Proofs.Ytgnfgpengoafkaa

/-- tasks, and slices of them, and of the document's. -/
def loose : List TypeId := [71, 38, 46]
theorem task_loose : 71 ∈ loose := by decide
end Go.Proofs.Ytgnfgpengoafkaa
