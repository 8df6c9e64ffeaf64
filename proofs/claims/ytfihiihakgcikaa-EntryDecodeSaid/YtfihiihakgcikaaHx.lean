/- Contracts of layer 8 in the laws' words: what a sum's call ends with. -/
import Derived.Test.YtfihiihakgcikaaHd
namespace Go.Proofs.Ytfihiihakgcikaa
open Go Go.RowKit
/-- A number, and below the new memory all as it was. -/
def u64Post (x : Nat) (w : World) (e : Ending) (w' : World) : Prop := e = .returned (.int .u64 (x : Int)) ∧ Below w.heap.size w w'
theorem Crc.crc_lt {b : List Nat} (hb : ∀ x ∈ b, x < 256) : Crc.crc b < 2 ^ 64 := Crc.upd_lt (by decide) hb
theorem Crc.ex1 : Crc.crc [49, 50, 51, 52, 53, 54, 55, 56, 57] = 11051210869376104954 := by decide +kernel
theorem Crc.ex2 : Crc.crc [] = 0 := by decide +kernel
end Go.Proofs.Ytfihiihakgcikaa
