import Derived.Test.YtihbngfbcnojcaaGreatHidC14
namespace Go.Proofs.YtihbngfbcnojcaaGreat
open Go.RowKit

/-- Entries, as a row has them. -/
def logCells (l : List EntV) : List Value := l.flatMap fun e => e.cells.toList

theorem infoEnt : (Tryz.prog.info? 152).map (fun i => (i.zero, i.size, i.bytes)) = some (some (.agg #[.int .i64 0, .int .i64 0, .int .i64 0, .int .i64 0, .string ByteArray.empty, .bool false, .string ByteArray.empty, .bool false, .string ByteArray.empty]), 9, 96) := by kernel_rfl
end Go.Proofs.YtihbngfbcnojcaaGreat
