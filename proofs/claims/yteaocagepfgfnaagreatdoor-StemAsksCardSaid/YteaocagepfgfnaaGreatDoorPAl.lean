import Derived.WalkKit
namespace Go.Proofs.YteaocagepfgfnaaGreatDoor
theorem aA{α:Type _}:(∀(l:List α)(i:Nat)(a:α),l.toArray.setIfInBounds i a=(l.set i a).toArray)∧(∀(a b:α)(l:List α)(i:Nat),(a::l).set (i+1) b=a::l.set i b)∧∀(a b:α)(l:List α),(a::l).set 0 b=b::l:=⟨fun l i a=>List.setIfInBounds_toArray l i a,fun _ _ _ _=>rfl,fun _ _ _=>rfl⟩
end Go.Proofs.YteaocagepfgfnaaGreatDoor
