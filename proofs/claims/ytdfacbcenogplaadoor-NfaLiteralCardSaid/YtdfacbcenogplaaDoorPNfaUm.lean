/- What the packs lack of a text. -/
import Derived.Test.YtdfacbcenogplaaDoorPk1
import Derived.Test.YtdfacbcenogplaaDoorPk2
import Derived.Test.YtdfacbcenogplaaDoorPk3
import Derived.Test.YtdfacbcenogplaaDoorPk4
import Derived.Test.YtdfacbcenogplaaDoorPk5
import Derived.Test.YtdfacbcenogplaaDoorPk6
import Derived.Test.YtdfacbcenogplaaDoorPk7
import Derived.Test.YtdfacbcenogplaaDoorPk8
import Derived.Test.YtdfacbcenogplaaDoorPk9
import Derived.Test.YtdfacbcenogplaaDoorPk10
import Derived.Test.YtdfacbcenogplaaDoorPk11
import Derived.Test.YtdfacbcenogplaaDoorPk12
namespace Go.Proofs.YtdfacbcenogplaaDoor

theorem owns_chr : ∀ l : List UInt8, Tr.ownsT (fun x => x) (l.map fun c => trC c.toNat) = l.map fun c => trC c.toNat
  | [] => by rw [List.map_nil, Tr.ownsT]
  | c :: l => by
    rw [List.map_cons, Tr.ownsT, owns_chr l]
    unfold trC
    rw [Tr.ownT, if_neg (by decide), Tr.ownsT]
    rfl
theorem own_chr : ∀ l : List UInt8, (togF 5 (l.map fun c => trC c.toNat)).ownT (fun x => x) = togF 5 (l.map fun c => trC c.toNat)
  | [] => by
    show (trK 1).ownT _ = trK 1
    unfold trK
    rw [Tr.ownT, if_neg (by decide), Tr.ownsT]
    rfl
  | [c] => by
    have := owns_chr [c]
    rw [List.map_cons, List.map_nil, Tr.ownsT, Tr.ownsT] at this
    exact List.head_eq_of_cons_eq this
  | a :: b :: l => by
    have := owns_chr (a :: b :: l)
    show (trN 5 ((a :: b :: l).map fun c => trC c.toNat)).ownT _ = trN 5 ((a :: b :: l).map fun c => trC c.toNat)
    unfold trN
    rw [Tr.ownT, if_neg (by decide), this]
    rfl

end Go.Proofs.YtdfacbcenogplaaDoor
