import Derived.WalkKit
namespace Go.Proofs.YtonhedefjmkpcaaGreatDoor
theorem aI {α : Type _} (l : List α) (i : Nat) (a : α) : l.toArray.setIfInBounds i a = (l.set i a).toArray := List.setIfInBounds_toArray l i a
theorem aS {α : Type _} (a b : α) (l : List α) (i : Nat) : (a :: l).set (i + 1) b = a :: l.set i b := rfl
theorem aZ {α : Type _} (a b : α) (l : List α) : (a :: l).set 0 b = b :: l := rfl
end Go.Proofs.YtonhedefjmkpcaaGreatDoor
