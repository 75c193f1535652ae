import Derived.Test.YtklbbbldalmnbaaGreatDoorMB
import Derived.Test.YtklbbbldalmnbaaGreatDoorMK
set_option linter.unusedVariables false
namespace Go.Proofs.YtklbbbldalmnbaaGreatDoor.Pa
open TR (Tr)
mutual
def fL:Tr->Nat
 | .mk _ _ _ _ _ _ _ kids=>1+fj kids
def fj:List Tr->Nat
 |[]=>0
 |t::ts=>fL t+fj ts
end
theorem eD(t:Tr):fL t=1+fj t.kids:=by cases t;rfl
inductive Sm:Tr->Prop
 |mk (k n a b c:Int) (o:Bool) (S:RL) (ks:List Tr) (hs:S.length<=2000000) (h:∀t∈ks,Sm t):Sm (.mk k n a b c o S ks)
theorem Sm.kids{t:Tr}(h:Sm t):t.set.length<=2000000/\∀u∈t.kids,Sm u:=by cases h with|mk k n a b c o S ks hs h=>exact⟨hs,h⟩
end Go.Proofs.YtklbbbldalmnbaaGreatDoor.Pa
namespace Go.Proofs.YtklbbbldalmnbaaGreatDoor.Pa
open TR (Tr)
open Br (BE PS)
variable {l : List Int} {d : Int} {s s' : St} {Q : Tr -> Prop}
end Go.Proofs.YtklbbbldalmnbaaGreatDoor.Pa
