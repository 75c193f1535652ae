import Derived.Below
namespace Go.RowKit
theorem Hid.o{p:Prop}(h:Hid p):p:=h
end Go.RowKit
namespace Go.Proofs.YtklbbbldalmnbaaGreatDoor
open Go.RowKit
theorem U(n:Nat):n<=n:=Nat.le_refl n
theorem J(n:Nat)(w:World):Below n w w:=Below.refl n w
end Go.Proofs.YtklbbbldalmnbaaGreatDoor
