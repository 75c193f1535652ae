import Derived.Below
import Derived.OrdersHeld
import Derived.WalkKit
import Derived.ProofKit
namespace Go.RowKit
theorem Below.andT{a w w2:World}(h:Below a.heap.size a w)(k:Below w.heap.size w w2):Below a.heap.size a w2:=h.trans (k.mono h.size)
end Go.RowKit
namespace Go.Proofs.YtfnndcbjklppeaaGreatDoor
open Go.RowKit
theorem leR(n:Nat):n≤n:=Nat.le_refl n
theorem belR(n:Nat)(w:World):Below n w w:=Below.refl n w
theorem allocB(w:World)(o:Obj):Below w.heap.size w (w.alloc o):=(Below.refl _ w).alloc (Nat.le_refl _) o
theorem named.{u}{α:Sort u}(x:α):∃y,y=x:=⟨x,rfl⟩
theorem takeH{P:Program}{ops:Array Oper}{Q:Exit→Act→World→Prop}{md:Region.Mode}{S:World→Prop}(i:Nat)(v:Value){oi:Oper}{fuel:Nat}{listed:Array Bool}{a:Act}{w:World}(hi:ops[i]? =some oi)(hQ:∀c a w,Q (.panic c) (a.put oi.dst v) w→Q (.panic c) a w)(hS:S w)(hy:∀w,S w→(execOp a.eval oi).run P w=.ok (.value v) w)(h:wpAnyH P md ops Q S fuel (listed.setIfInBounds i true) (a.put oi.dst v) w)(hs:Region.noSelect ops=true:=by kernel_rfl)(hf:Region.free md ops listed i=true:=by kernel_rfl)(hr:(Region.ready md ops listed).contains i=true:=by kernel_rfl)(hw:Region.wanted oi (yielded ops a.tmps)=true:=by kernel_rfl):wpAnyH P md ops Q S (fuel+1) listed a w:=wpAnyH_take (i:=i) (v:=v) hi hs hf hr hQ (Or.inl ⟨hw,hy⟩) hS h
end Go.Proofs.YtfnndcbjklppeaaGreatDoor
