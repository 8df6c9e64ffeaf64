/- What the bulk of the arguments bounds. -/
import Derived.Test.YtffdmpicjhaniaaDoorRows
namespace Go.Proofs.YtffdmpicjhaniaaDoor.Bulk
open Go
theorem one_in {H : Type} (d : DataW H) : 1 ≤ Rows.uptoBulk d := by
  rcases d with (l | _ | _ | _ | _ | _ | _ | _)
  · cases l <;> simp [Rows.uptoBulk]
  all_goals simp [Rows.uptoBulk]
theorem len_in {H : Type} : ∀ l : List (DataW H), l.length ≤ Rows.uptoBulkAll l
  | [] => Nat.zero_le _
  | d :: l => by
    have a := one_in d
    have b := len_in l
    simp only [List.length_cons, Rows.uptoBulkAll]
    omega
theorem slice_in {H : Type} {es sp : List (DataW H)} {n : Nat} (h : Rows.uptoBulk (.slice es sp) ≤ n) : es.length ≤ n := by
  have := len_in es
  simp only [Rows.uptoBulk] at h
  omega
theorem head_le {H : Type} (d : DataW H) (l : List (DataW H)) : Rows.uptoBulk d ≤ Rows.uptoBulkAll (d :: l) := by
  simp only [Rows.uptoBulkAll]
  omega
end Go.Proofs.YtffdmpicjhaniaaDoor.Bulk
