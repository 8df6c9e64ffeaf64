/- A region that draws: what holds behind every operation may be made stronger on the way. -/
import Derived.Test.YtfihiihakgcikaaRr
namespace Go.Proofs.Ytfihiihakgcikaa
open Go Go.RowKit
theorem wpAnyH_up {P : Program} {md : Region.Mode} {ops : Array Oper} {Q : Exit → Act → World → Prop} {S S' : World → Prop} (hS : ∀ w, S' w → S w) :
    ∀ {fuel : Nat} {listed : Array Bool} {a : Act} {w : World}, wpAnyH P md ops Q S' fuel listed a w → wpAnyH P md ops Q S fuel listed a w
  | 0, _, _, _, h => h
  | _ + 1, _, _, _, h => ⟨h.1, fun i hi => wpOp_mono (fun _ _ h' => ⟨hS _ h'.1, wpAnyH_up hS h'.2⟩) (h.2 i hi)⟩
end Go.Proofs.Ytfihiihakgcikaa
