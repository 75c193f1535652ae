import Derived.Test.YtfnndcbjklppeaaGreatDoorUF2
import Derived.Test.YtfnndcbjklppeaaGreatDoorUB2
set_option linter.unusedVariables false
namespace Go.Proofs.YtfnndcbjklppeaaGreatDoor
open Go.RowKit
structure FT where
 least:Int
 most:Int
 plain:Bool
abbrev ftV(f:FT):Value:=.agg #[.int .i64 f.least,.int .i64 f.most,.bool f.plain]
abbrev ftO(f:FT):Obj:=.cells #[.int .i64 f.least,.int .i64 f.most,.bool f.plain] 127
def addF(a b:FT):FT:=⟨leastF (a.least+b.least),addM a.most b.most,a.plain&&b.plain⟩
def orF(a b:FT):FT:=⟨if a.least<b.least then a.least else b.least,maxM a.most b.most,a.plain&&b.plain⟩
def repF(f:FT)(least most:Int):FT:=⟨leastF (f.least*least),timM f.most most,f.plain⟩
def foldF(op:FT→FT→FT):List FT→FT
 |[]=>⟨0,0,false⟩
 |f::fs=>fs.foldl op f
def headF:List FT→FT
 |[]=>⟨0,0,false⟩
 |f::_=>f
def factK(k least most:Int)(l:List FT):FT:=
 if k=1 then⟨0,0,true⟩
 else if k=2 then⟨1,1,true⟩
 else if k=9 then foldF addF l
 else if k=10 then foldF orF l
 else if k=11∨k=13 then headF l
 else if k=12 then repF (headF l) least most
 else if k=18 then⟨0, -1,false⟩
 else⟨0,0,false⟩
mutual
def factT:Tr→FT
 | .mk k _ least most _ _ _ kids=>factK k least most (factL kids)
def factL:List Tr→List FT
 |[]=>[]
 |t::ts=>factT t::factL ts
end
theorem factL_len:∀ts:List Tr,(factL ts).length=ts.length
 |[]=>rfl
 |t::ts=>by rw[factL,List.length_cons,List.length_cons,factL_len ts]
theorem factL_get:∀(ts:List Tr) (j:Nat) (hj:j<ts.length),(factL ts)[j]? =some (factT ts[j])
 |t::ts,0,_=>by rw[factL];rfl
 |t::ts,j+1,hj=>by rw[factL,List.getElem?_cons_succ];exact factL_get ts j (by simpa using hj)
def okF(f:FT):Prop:=0≤f.least∧f.least≤1000000∧ -1≤f.most∧f.most≤1000000
theorem addF_ok{a b:FT}(ha:okF a)(hb:okF b):okF (addF a b):=by
 unfold okF at*
 simp only[addF,leastF,addM,mostF]
 refine⟨?_,?_,?_,?_⟩<;>(repeat' split)<;>omega
theorem orF_ok{a b:FT}(ha:okF a)(hb:okF b):okF (orF a b):=by
 unfold okF at*
 simp only[orF,maxM]
 refine⟨?_,?_,?_,?_⟩<;>(repeat' split)<;>omega
theorem repF_ok{f:FT}{l m:Int}(hf:okF f)(hl:0≤l∧l≤100)(hm: -1≤m∧m≤100):okF (repF f l m):=by
 obtain⟨f0,f1,f2,f3⟩:=hf
 have h1:=mul_small f0 f1 hl.1 hl.2
 have h2:¬(f.most=0∨m=0)→¬(f.most<0∨m<0)→0≤f.most*m:=fun a b=>Int.mul_nonneg (by omega) (by omega)
 unfold okF
 simp only[repF,leastF,timM,mostF]
 refine⟨?_,?_,?_,?_⟩
 ·split<;>omega
 ·split<;>omega
 ·split
  ·omega
  ·split
   ·omega
   ·rename_i a b
    have:=h2 a b
    split<;>omega
 ·split
  ·omega
  ·split
   ·omega
   ·split<;>omega
def good(t:Tr):Prop:=∃s s':St,chkT t s=.ok s'
theorem good_node{t:Tr}(h:good t):(1≤t.kind∧t.kind≤18)∧kidsB t=true∧(t.kind=12→repE t=0):=by
 obtain⟨s,s',h⟩:=h
 rw[chkT_kids]at h
 cases hn:nodeS t s with
 |error z=>rw[hn]at h;cases h
 |ok s1=>
  unfold nodeS at hn
  split at hn
  ·cases hn
  ·rename_i h1
   split at hn
   ·cases hn
   ·rename_i h2
    have h2':(kidsB t&&fieldsB t)=true:=by simpa using h2
    rw[Bool.and_eq_true]at h2'
    split at hn
    ·cases hn
    ·refine ⟨by omega,h2'.1,fun hk=>?_⟩
     rw[if_pos hk]at hn
     split at hn
     ·rename_i h4;exact h4
     ·cases hn
theorem chkL_kids:∀(ts:List Tr) (s s':St),chkL ts s=.ok s'→∀j (hj:j<ts.length),good ts[j]
 |t::ts,s,s',h,j,hj=>by
  unfold chkL at h
  cases hn:chkT t s with
  |error z=>rw[hn]at h;cases h
  |ok s1=>
   rw[hn]at h
   cases j with
   |zero=>exact⟨s,s1,hn⟩
   |succ j=>exact chkL_kids ts s1 s' h j (by simpa using hj)
theorem good_kids{t:Tr}(h:good t):∀j (hj:j<t.kids.length),good t.kids[j]:=by
 obtain⟨s,s',h⟩:=h
 rw[chkT_kids]at h
 cases hn:nodeS t s with
 |error z=>rw[hn]at h;cases h
 |ok s1=>rw[hn]at h;exact chkL_kids _ _ _ h
theorem foldl_ok{op:FT→FT→FT}(hop:∀a b,okF a→okF b→okF (op a b)):∀(l:List FT) (a:FT),okF a→(∀f∈l,okF f)→okF (l.foldl op a):=by
 intro l
 induction l with
 |nil=>intro a ha _;exact ha
 |cons f l ih=>intro a ha h;exact ih _ (hop _ _ ha (h f (by simp))) (fun x hx=>h x (by simp[hx]))
theorem foldF_ok{op:FT→FT→FT}(hop:∀a b,okF a→okF b→okF (op a b)){l:List FT}(h:∀f∈l,okF f):okF (foldF op l):=by
 cases l with
 |nil=>unfold okF foldF;simp
 |cons f l=>exact foldl_ok hop l f (h f (by simp)) (fun x hx=>h x (by simp[hx]))
theorem headF_ok{l:List FT}(h:∀f∈l,okF f):okF (headF l):=by
 cases l with
 |nil=>unfold okF headF;simp
 |cons f l=>exact h f (by simp)
theorem factK_ok{t:Tr}(h:good t){l:List FT}(hl:∀f∈l,okF f):okF (factK t.kind t.least t.most l):=by
 have hg:=good_node h
 unfold factK
 split
 ·unfold okF;simp
 ·split
  ·unfold okF;simp
  ·split
   ·exact foldF_ok (fun a b=>addF_ok) hl
   ·split
    ·exact foldF_ok (fun a b=>orF_ok) hl
    ·split
     ·exact headF_ok hl
     ·split
      ·rename_i h12
       have hr:=hg.2.2 h12
       unfold repE at hr
       split at hr
       ·omega
       ·split at hr
        ·omega
        ·exact repF_ok (headF_ok hl) (by omega) (by omega)
      ·split
       ·unfold okF;simp
       ·unfold okF;simp
mutual
theorem factT_ok:∀t:Tr,good t→okF (factT t)
 | .mk k a b c d e f kids,h=>by
  rw[factT]
  exact factK_ok (t:=.mk k a b c d e f kids) h (fun x hx=>by
   obtain⟨j,hj,rfl⟩:=List.getElem_of_mem hx
   rw[factL_len]at hj
   exact factL_ok kids (fun j hj=>good_kids h j hj) _ hx)
theorem factL_ok:∀ts:List Tr,(∀j (hj:j<ts.length),good ts[j])→∀f∈factL ts,okF f
 |[],_,f,hf=>by cases hf
 |t::ts,h,f,hf=>by
  rw[factL]at hf
  rcases List.mem_cons.1 hf with rfl|hf
  ·exact factT_ok t (h 0 (by simp))
  ·exact factL_ok ts (fun j hj=>h (j+1) (by simpa using hj)) f hf
end
end Go.Proofs.YtfnndcbjklppeaaGreatDoor
namespace Go.Proofs.YtfnndcbjklppeaaGreatDoor.Mk
open Go.RowKit
structure PO where
 dn:Int
 set:RL:=[]
 to:Int:=0
 other:Int:=0
 kind:Int:=0
 least:Int:=0
 fold:Bool:=false
 back:Bool:=false
structure MS where
 ops:List PO
 lab:List Nat
 cnt:Nat
def MS.add(s:MS)(o:PO):MS:={ s with ops:=s.ops++[o] }
def MS.newC(s:MS):MS:={ s with cnt:=s.cnt+1 }
def MS.newL(s:MS):MS:={ s with lab:=s.lab++[0] }
def MS.stand(s:MS)(l:Nat):MS:={ s with lab:=s.lab.set l s.ops.length }
def firstM(back:Bool)(f:MS→MS)(s:MS):MS:=
 (f (s.newC.add { dn:=7,to:=s.cnt })).add { dn:=8,to:=s.cnt,back:=back }
def noneM(f:MS→MS)(s:MS):MS:=
 ((((f ((((s.newC.newL.newL).add { dn:=7,to:=s.cnt }).add { dn:=3,to:=s.lab.length,other:=(s.lab.length+1:Nat) }).stand s.lab.length)).add { dn:=8,to:=s.cnt }).add { dn:=14 }).stand (s.lab.length+1))
def behindM(least most:Int)(f:MS→MS)(s:MS):MS:=
 let l:=s.lab.length
 let s1:=((((((s.newC.newL.newL.newL.newL).add { dn:=7,to:=s.cnt }).add { dn:=9,to:=s.cnt,least:=least }).stand l).add { dn:=13,to:=s.cnt }).add { dn:=3,to:=(l+1:Nat),other:=(l+2:Nat) }).stand (l+1)
 (((((f s1).add { dn:=12,to:=s.cnt,other:=(l+3:Nat) }).add { dn:=14 }).stand (l+2)).add { dn:=10,to:=s.cnt,least:=most+1,other:=l }).add { dn:=14 } |>.stand (l+3)
structure RV where
 least:Int
 most:Int
 way:Int
 counted:Bool
 watched:Bool
 done:Nat
 fail:Nat
def choiceM(r:RV)(b e:Nat)(s:MS):MS:=
 let s1:=if 0<r.least then s.add { dn:=11,to:=r.done,least:=r.least,other:=b } else s
 let s2:=if r.way=2 then s1.add { dn:=3,to:=e,other:=b } else s1.add { dn:=3,to:=b,other:=e }
 if r.watched then(s2.stand r.fail).add { dn:=14 } else s2
def roundM(r:RV)(f:MS→MS)(s:MS):MS:=
 if r.watched then
  let s1:=f (s.newL.add { dn:=7,to:=r.done })
  let s2:=if 0<r.least then s1.add { dn:=11,to:=r.done,least:=r.least,other:=s.lab.length } else s1
  (s2.add { dn:=12,to:=r.done,other:=r.fail }).stand s.lab.length
 else f s
def allM(r:RV)(f:MS→MS)(s:MS):MS:=
 let l:=s.lab.length
 let s1:=s.newL.newL.newL
 let s2:=(if r.counted then s1.add { dn:=9,to:=r.done } else s1).stand l
 let s3:=(if r.least=r.most then s2 else choiceM r (l+1) (l+2) s2).stand (l+1)
 let s4:=roundM r f s3
 let s5:=if r.counted then s4.add { dn:=10,to:=r.done,least:=if 0<r.most then r.most else 0,other:=l } else s4
 (if r.most<0 then s5.add { dn:=2,to:=l } else s5).stand (l+2)
def roundsM(least most way kl:Int)(f:MS→MS)(s:MS):MS:=
 let counted:=decide (0<least)||decide (0<most)
 let watched:=!decide (least=most)&&decide (kl=0)
 if counted||watched then allM ⟨least,most,way,counted,watched,s.cnt,s.lab.length⟩ f s.newL.newC
 else allM ⟨least,most,way,counted,watched,0,s.lab.length⟩ f s.newL
def repM(least most way kl:Int)(f:MS→MS)(s:MS):MS:=
 if most=0 then s else if way=3 then firstM false (roundsM least most way kl f) s else roundsM least most way kl f s
def splitM(e:Nat)(f:MS→MS)(s:MS):MS:=
 let l:=s.lab.length
 (((f ((s.newL.newL.add { dn:=3,to:=l,other:=(l+1:Nat) }).stand l)).add { dn:=2,to:=e }).stand (l+1))
def head0(ts:List Tr):FT:=headF (factL ts)
mutual
def mkT:Tr→MS→MS
 | .mk k num least most way fold set kids,s=>
  if k=1 then s
  else if k=2 then s.add { dn:=1,set:=set }
  else if k=9 then mkL kids s
  else if k=10 then mkE s.lab.length kids s.newL
  else if k=11 then(mkH kids (s.newC.add { dn:=7,to:=s.cnt })).add { dn:=4,to:=num,other:=s.cnt }
  else if k=12 then repM least most way (head0 kids).least (mkH kids) s
  else if k=13 then firstM false (mkH kids) s
  else if k=14 then firstM true (mkH kids) s
  else if k=15 then noneM (mkH kids) s
  else if k=16 then firstM false (behindM (head0 kids).least (head0 kids).most (mkH kids)) s
  else if k=17 then noneM (behindM (head0 kids).least (head0 kids).most (mkH kids)) s
  else if k=18 then s.add { dn:=6,to:=num,fold:=fold }
  else s.add { dn:=5,kind:=k }
def mkH:List Tr→MS→MS
 |[],s=>s
 |t::_,s=>mkT t s
def mkL:List Tr→MS→MS
 |[],s=>s
 |t::ts,s=>mkL ts (mkT t s)
def mkE(e:Nat):List Tr→MS→MS
 |[],s=>s
 |t::ts,s=>if ts.isEmpty then(mkT t s).stand e else mkE e ts (splitM e (mkT t) s)
end
def toOp(d:Int):Bool:=decide (d=2)||decide (d=3)
def otOp(d:Int):Bool:=decide (d=3)||decide (d=10)||decide (d=11)||decide (d=12)
def setl(lab:List Nat)(o:PO):PO:=
 { o with to:=if toOp o.dn then(lab.getD o.to.toNat 0:Nat)else o.to,other:=if otOp o.dn then(lab.getD o.other.toNat 0:Nat)else o.other }
def madeS(t:Tr):MS:=(mkT t ⟨[],[],0⟩).add { dn:=15 }
def madeO(t:Tr):List PO:=(madeS t).ops.map (setl (madeS t).lab)
structure MS.le(s s':MS):Prop where
 ops:s.ops.length≤s'.ops.length
 lab:s.lab.length≤s'.lab.length
 cnt:s.cnt≤s'.cnt
theorem MS.le.refl(s:MS):s.le s:=⟨leR _,leR _,leR _⟩
theorem MS.le.trans{a b c:MS}(h:a.le b)(k:b.le c):a.le c:=⟨Nat.le_trans h.ops k.ops,Nat.le_trans h.lab k.lab,Nat.le_trans h.cnt k.cnt⟩
theorem le_add(s:MS)(o:PO):s.le (s.add o):=⟨by simp[MS.add],leR _,leR _⟩
theorem le_newC(s:MS):s.le s.newC:=⟨leR _,leR _,by simp[MS.newC]⟩
theorem le_newL(s:MS):s.le s.newL:=⟨leR _,by simp[MS.newL],leR _⟩
theorem le_stand(s:MS)(l:Nat):s.le (s.stand l):=⟨leR _,by simp[MS.stand],leR _⟩
theorem MS.le.add{s s':MS}(h:s.le s')(o:PO):s.le (s'.add o):=h.trans (le_add _ _)
theorem MS.le.newC{s s':MS}(h:s.le s'):s.le s'.newC:=h.trans (le_newC _)
theorem MS.le.newL{s s':MS}(h:s.le s'):s.le s'.newL:=h.trans (le_newL _)
theorem MS.le.stand{s s':MS}(h:s.le s')(l:Nat):s.le (s'.stand l):=h.trans (le_stand _ _)
def Up(f:MS→MS):Prop:=∀s:MS,s.le (f s)
theorem first_up{f:MS→MS}(b:Bool)(h:Up f):Up (firstM b f):=fun s=>(((MS.le.refl s).newC.add _).trans (h _)).add _
theorem none_up{f:MS→MS}(h:Up f):Up (noneM f):=fun s=>((((((((MS.le.refl s).newC.newL.newL.add _).add _).stand _).trans (h _)).add _).add _).stand _)
theorem behind_up{f:MS→MS}(a b:Int)(h:Up f):Up (behindM a b f):=fun s=>((((((((((((((MS.le.refl s).newC.newL.newL.newL.newL.add _).add _).stand _).add _).add _).stand _).trans (h _)).add _).add _).stand _).add _).add _).stand _)
theorem choice_up(r:RV)(b e:Nat):Up (choiceM r b e):=fun s=>by
 unfold choiceM
 simp only[]
 have h1:s.le (if 0<r.least then s.add { dn:=11,to:=r.done,least:=r.least,other:=b } else s):=by split;exact le_add _ _;exact MS.le.refl _
 generalize (if 0<r.least then s.add { dn:=11,to:=r.done,least:=r.least,other:=b } else s)=s1 at h1 ⊢
 by_cases hw:r.way=2
 ·rw [if_pos hw];split
  ·exact((h1.add _).stand _).add _
  ·exact h1.add _
 ·rw [if_neg hw];split
  ·exact((h1.add _).stand _).add _
  ·exact h1.add _
theorem round_up(r:RV){f:MS→MS}(h:Up f):Up (roundM r f):=fun s=>by
 unfold roundM
 split
 ·simp only[]
  have h1:=((MS.le.refl s).newL.add { dn:=7,to:=r.done }).trans (h _)
  split
  ·exact((h1.add _).add _).stand _
  ·exact(h1.add _).stand _
 ·exact h s
theorem all_up(r:RV){f:MS→MS}(h:Up f):Up (allM r f):=fun s=>by
 unfold allM
 simp only[]
 have h1:s.le ((if r.counted then s.newL.newL.newL.add { dn:=9,to:=r.done } else s.newL.newL.newL).stand s.lab.length):=by
  split
  ·exact((MS.le.refl s).newL.newL.newL.add _).stand _
  ·exact(MS.le.refl s).newL.newL.newL.stand _
 generalize ((if r.counted then s.newL.newL.newL.add { dn:=9,to:=r.done } else s.newL.newL.newL).stand s.lab.length)=s2 at h1 ⊢
 have h2:s.le ((if r.least=r.most then s2 else choiceM r (s.lab.length+1) (s.lab.length+2) s2).stand (s.lab.length+1)):=by
  split
  ·exact h1.stand _
  ·exact(h1.trans (choice_up r _ _ _)).stand _
 generalize ((if r.least=r.most then s2 else choiceM r (s.lab.length+1) (s.lab.length+2) s2).stand (s.lab.length+1))=s3 at h2 ⊢
 have h3:=h2.trans (round_up r h s3)
 generalize roundM r f s3=s4 at h3 ⊢
 by_cases hc:r.counted=true
 ·simp only[hc,if_true]
  split
  ·exact((h3.add _).add _).stand _
  ·exact(h3.add _).stand _
 ·simp only[hc]
  split
  ·exact(h3.add _).stand _
  ·exact h3.stand _
theorem rounds_up(a b c d:Int){f:MS→MS}(h:Up f):Up (roundsM a b c d f):=fun s=>by
 unfold roundsM
 simp only[]
 split
 ·exact(MS.le.refl s).newL.newC.trans (all_up _ h _)
 ·exact(MS.le.refl s).newL.trans (all_up _ h _)
theorem rep_up(a b c d:Int){f:MS→MS}(h:Up f):Up (repM a b c d f):=fun s=>by
 unfold repM
 split
 ·exact MS.le.refl s
 ·split
  ·exact first_up _ (rounds_up a b c d h) s
  ·exact rounds_up a b c d h s
theorem split_up(e:Nat){f:MS→MS}(h:Up f):Up (splitM e f):=fun s=>by
 unfold splitM
 exact(((((MS.le.refl s).newL.newL.add _).stand _).trans (h _)).add _).stand _
mutual
theorem mkT_up:∀t:Tr,Up (mkT t)
 | .mk k num least most way fold set kids=>fun s=>by
  have hH:=mkH_up kids
  unfold mkT
  by_cases h1:k=1
  ·rw[if_pos h1];exact MS.le.refl s
  rw[if_neg h1]
  by_cases h2:k=2
  ·rw[if_pos h2];exact le_add _ _
  rw[if_neg h2]
  by_cases h9:k=9
  ·rw[if_pos h9];exact mkL_up kids s
  rw[if_neg h9]
  by_cases h10:k=10
  ·rw[if_pos h10];exact(le_newL s).trans (mkE_up _ kids _)
  rw[if_neg h10]
  by_cases h11:k=11
  ·rw[if_pos h11];exact(((le_newC s).add _).trans (hH _)).add _
  rw[if_neg h11]
  by_cases h12:k=12
  ·rw[if_pos h12];exact rep_up _ _ _ _ hH s
  rw[if_neg h12]
  by_cases h13:k=13
  ·rw[if_pos h13];exact first_up _ hH s
  rw[if_neg h13]
  by_cases h14:k=14
  ·rw[if_pos h14];exact first_up _ hH s
  rw[if_neg h14]
  by_cases h15:k=15
  ·rw[if_pos h15];exact none_up hH s
  rw[if_neg h15]
  by_cases h16:k=16
  ·rw[if_pos h16];exact first_up _ (behind_up _ _ hH) s
  rw[if_neg h16]
  by_cases h17:k=17
  ·rw[if_pos h17];exact none_up (behind_up _ _ hH) s
  rw[if_neg h17]
  by_cases h18:k=18
  ·rw[if_pos h18];exact le_add _ _
  rw[if_neg h18]
  exact le_add _ _
theorem mkH_up:∀ts:List Tr,Up (mkH ts)
 |[]=>fun s=>MS.le.refl s
 |t::_=>fun s=>by unfold mkH;exact mkT_up t s
theorem mkL_up:∀ts:List Tr,Up (mkL ts)
 |[]=>fun s=>MS.le.refl s
 |t::ts=>fun s=>by unfold mkL;exact(mkT_up t s).trans (mkL_up ts _)
theorem mkE_up(e:Nat):∀ts:List Tr,Up (mkE e ts)
 |[]=>fun s=>MS.le.refl s
 |t::ts=>fun s=>by
  unfold mkE
  split
  ·exact(mkT_up t s).stand _
  ·exact(split_up e (mkT_up t) s).trans (mkE_up e ts _)
end
structure MS.by(a b c:Nat)(s s':MS):Prop where
 ops:s'.ops.length≤s.ops.length+a
 lab:s'.lab.length≤s.lab.length+b
 cnt:s'.cnt≤s.cnt+c
variable {a b c x y z : Nat} {s s' s'' : MS}
theorem by_refl(s:MS):s.by 0 0 0 s:=⟨leR _,leR _,leR _⟩
theorem MS.by.trans(h:s.by a b c s')(k:s'.by x y z s''):s.by (a+x) (b+y) (c+z) s'':=
 ⟨by have:=h.ops;have:=k.ops;omega,by have:=h.lab;have:=k.lab;omega,by have:=h.cnt;have:=k.cnt;omega⟩
theorem MS.by.mono(h:s.by a b c s')(h1:a≤x)(h2:b≤y)(h3:c≤z):s.by x y z s':=
 ⟨by have:=h.ops;omega,by have:=h.lab;omega,by have:=h.cnt;omega⟩
theorem MS.by.add(h:s.by a b c s')(o:PO):s.by (a+1) b c (s'.add o):=⟨by have:=h.ops;simp[MS.add];omega,h.lab,h.cnt⟩
theorem MS.by.newC(h:s.by a b c s'):s.by a b (c+1) s'.newC:=⟨h.ops,h.lab,by have:=h.cnt;simp[MS.newC];omega⟩
theorem MS.by.newL(h:s.by a b c s'):s.by a (b+1) c s'.newL:=⟨h.ops,by have:=h.lab;simp[MS.newL];omega,h.cnt⟩
theorem MS.by.stand(h:s.by a b c s')(l:Nat):s.by a b c (s'.stand l):=⟨h.ops,by have:=h.lab;simp[MS.stand];omega,h.cnt⟩
def By(a b c:Nat)(f:MS→MS):Prop:=∀s:MS,s.by a b c (f s)
variable {f : MS → MS}
theorem first_by(k:Bool)(h:By a b c f):By (a+2) b (c+1) (firstM k f):=fun s=>
 (((((by_refl s).newC.add _).trans (h _)).add _)).mono (by omega) (by omega) (by omega)
theorem none_by(h:By a b c f):By (a+4) (b+2) (c+1) (noneM f):=fun s=>
 ((((((((by_refl s).newC.newL.newL.add _).add _).stand _).trans (h _)).add _).add _).stand _).mono (by omega) (by omega) (by omega)
theorem behind_by(i j:Int)(h:By a b c f):By (a+8) (b+4) (c+1) (behindM i j f):=fun s=>
 ((((((((((((((by_refl s).newC.newL.newL.newL.newL.add _).add _).stand _).add _).add _).stand _).trans (h _)).add _).add _).stand _).add _).add _).stand _).mono (by omega) (by omega) (by omega)
theorem choice_by(r:RV)(i e:Nat):By 3 0 0 (choiceM r i e):=fun s=>by
 unfold choiceM
 simp only[]
 have h1:s.by 1 0 0 (if 0<r.least then s.add { dn:=11,to:=r.done,least:=r.least,other:=i } else s):=by
  split
  ·exact(by_refl s).add _
  ·exact(by_refl s).mono (by omega) (by omega) (by omega)
 generalize (if 0<r.least then s.add { dn:=11,to:=r.done,least:=r.least,other:=i } else s)=s1 at h1 ⊢
 by_cases hw:r.way=2
 ·rw [if_pos hw];split
  ·exact((h1.add _).stand _).add _
  ·exact(h1.add _).mono (by omega) (by omega) (by omega)
 ·rw [if_neg hw];split
  ·exact((h1.add _).stand _).add _
  ·exact(h1.add _).mono (by omega) (by omega) (by omega)
theorem round_by(r:RV)(h:By a b c f):By (a+3) (b+1) c (roundM r f):=fun s=>by
 unfold roundM
 split
 ·simp only[]
  have h1:=((by_refl s).newL.add { dn:=7,to:=r.done }).trans (h _)
  split
  ·exact(((h1.add _).add _).stand _).mono (by omega) (by omega) (by omega)
  ·exact((h1.add _).stand _).mono (by omega) (by omega) (by omega)
 ·exact(h s).mono (by omega) (by omega) (by omega)
theorem all_by(r:RV)(h:By a b c f):By (a+9) (b+4) c (allM r f):=fun s=>by
 unfold allM
 simp only[]
 have h1:s.by 1 3 0 ((if r.counted then s.newL.newL.newL.add { dn:=9,to:=r.done } else s.newL.newL.newL).stand s.lab.length):=by
  split
  ·exact((by_refl s).newL.newL.newL.add _).stand _
  ·exact((by_refl s).newL.newL.newL.stand _).mono (by omega) (by omega) (by omega)
 generalize ((if r.counted then s.newL.newL.newL.add { dn:=9,to:=r.done } else s.newL.newL.newL).stand s.lab.length)=s2 at h1 ⊢
 have h2:s.by 4 3 0 ((if r.least=r.most then s2 else choiceM r (s.lab.length+1) (s.lab.length+2) s2).stand (s.lab.length+1)):=by
  split
  ·exact(h1.stand _).mono (by omega) (by omega) (by omega)
  ·exact((h1.trans (choice_by r _ _ _)).stand _).mono (by omega) (by omega) (by omega)
 generalize ((if r.least=r.most then s2 else choiceM r (s.lab.length+1) (s.lab.length+2) s2).stand (s.lab.length+1))=s3 at h2 ⊢
 have h3:=h2.trans (round_by r h s3)
 generalize roundM r f s3=s4 at h3 ⊢
 by_cases hc:r.counted=true
 ·simp only[hc,if_true]
  split
  ·exact(((h3.add _).add _).stand _).mono (by omega) (by omega) (by omega)
  ·exact((h3.add _).stand _).mono (by omega) (by omega) (by omega)
 ·simp only[hc]
  split
  ·exact((h3.add _).stand _).mono (by omega) (by omega) (by omega)
  ·exact(h3.stand _).mono (by omega) (by omega) (by omega)
theorem rounds_by(i j k l:Int)(h:By a b c f):By (a+9) (b+5) (c+1) (roundsM i j k l f):=fun s=>by
 unfold roundsM
 simp only[]
 split
 ·exact((by_refl s).newL.newC.trans (all_by _ h _)).mono (by omega) (by omega) (by omega)
 ·exact((by_refl s).newL.trans (all_by _ h _)).mono (by omega) (by omega) (by omega)
theorem rep_by(i j k l:Int)(h:By a b c f):By (a+11) (b+5) (c+2) (repM i j k l f):=fun s=>by
 unfold repM
 split
 ·exact(by_refl s).mono (by omega) (by omega) (by omega)
 ·split
  ·exact(first_by _ (rounds_by i j k l h) s).mono (by omega) (by omega) (by omega)
  ·exact(rounds_by i j k l h s).mono (by omega) (by omega) (by omega)
theorem split_by(e:Nat)(h:By a b c f):By (a+2) (b+2) c (splitM e f):=fun s=>by
 unfold splitM
 exact((((((by_refl s).newL.newL.add _).stand _).trans (h _)).add _).stand _).mono (by omega) (by omega) (by omega)
theorem szT_pos(t:Tr):1≤szT t:=by rw[szT_kids];omega
mutual
theorem mkT_by:∀t:Tr,good t→By (12*szT t - 11) (8*szT t - 2) (2*szT t - 2) (mkT t)
 | .mk k num least most way fold set kids,hg=>fun s=>by
  have hk:=good_node hg
  have hkb:=hk.2.1
  have hgk:∀j (hj:j<kids.length),good kids[j]:=good_kids hg
  rw[szT]
  have lf:∀o,s.by (12*(1+szL kids) - 11) (8*(1+szL kids) - 2) (2*(1+szL kids) - 2) (s.add o):=fun o=>((by_refl s).add o).mono (by omega) (by omega) (by omega)
  have hH:11≤k∧k≤17→By (12*szL kids - 11) (8*szL kids - 2) (2*szL kids - 2) (mkH kids)∧1≤szL kids:=fun hr=>by
   unfold kidsB at hkb
   rw[if_neg (by show ¬k=9;omega),if_neg (by show ¬k=10;omega),if_pos (by show 11≤k∧k≤17;omega)]at hkb
   have h1:kids.length=1:=of_decide_eq_true hkb
   match kids,h1,hgk with
   |[t],_,hgk=>
    have ht:=szT_pos t
    have e:szL [t]=szT t:=by simp[szL]
    rw[e]
    exact⟨fun s=>by unfold mkH;exact mkT_by t (hgk 0 (by simp)) s,ht⟩
  unfold mkT
  by_cases h1:k=1
  ·rw[if_pos h1];exact(by_refl s).mono (by omega) (by omega) (by omega)
  rw[if_neg h1]
  by_cases h2:k=2
  ·rw[if_pos h2];exact lf _
  rw[if_neg h2]
  by_cases h9:k=9
  ·rw[if_pos h9];exact(mkL_by kids hgk s).mono (by omega) (by omega) (by omega)
  rw[if_neg h9]
  by_cases h10:k=10
  ·rw [if_pos h10]
   have hn:kids≠[]:=by
    unfold kidsB at hkb
    rw[if_neg (by show ¬k=9;omega),if_pos (by show k=10;omega)]at hkb
    intro h0
    simp[Tr.kids,h0]at hkb
   exact((by_refl s).newL.trans (mkE_by _ kids hn hgk _)).mono (by omega) (by omega) (by omega)
  rw[if_neg h10]
  by_cases h11:k=11
  ·rw [if_pos h11]
   obtain⟨hb,h0⟩:=hH (by omega)
   exact((((by_refl s).newC.add _).trans (hb _)).add _).mono (by omega) (by omega) (by omega)
  rw[if_neg h11]
  by_cases h12:k=12
  ·rw [if_pos h12]
   obtain⟨hb,h0⟩:=hH (by omega)
   exact(rep_by _ _ _ _ hb s).mono (by omega) (by omega) (by omega)
  rw[if_neg h12]
  by_cases h13:k=13
  ·rw [if_pos h13]
   obtain⟨hb,h0⟩:=hH (by omega)
   exact(first_by _ hb s).mono (by omega) (by omega) (by omega)
  rw[if_neg h13]
  by_cases h14:k=14
  ·rw [if_pos h14]
   obtain⟨hb,h0⟩:=hH (by omega)
   exact(first_by _ hb s).mono (by omega) (by omega) (by omega)
  rw[if_neg h14]
  by_cases h15:k=15
  ·rw [if_pos h15]
   obtain⟨hb,h0⟩:=hH (by omega)
   exact(none_by hb s).mono (by omega) (by omega) (by omega)
  rw[if_neg h15]
  by_cases h16:k=16
  ·rw [if_pos h16]
   obtain⟨hb,h0⟩:=hH (by omega)
   exact(first_by _ (behind_by _ _ hb) s).mono (by omega) (by omega) (by omega)
  rw[if_neg h16]
  by_cases h17:k=17
  ·rw [if_pos h17]
   obtain⟨hb,h0⟩:=hH (by omega)
   exact(none_by (behind_by _ _ hb) s).mono (by omega) (by omega) (by omega)
  rw[if_neg h17]
  by_cases h18:k=18
  ·rw[if_pos h18];exact lf _
  rw[if_neg h18]
  exact lf _
theorem mkL_by:∀ts:List Tr,(∀j (hj:j<ts.length),good ts[j])→By (12*szL ts) (8*szL ts) (2*szL ts) (mkL ts)
 |[],_=>fun s=>by rw[mkL];exact(by_refl s).mono (by omega) (by omega) (by omega)
 |t::ts,h=>fun s=>by
  rw[mkL,szL]
  have h0:=mkT_by t (h 0 (by simp)) s
  have h1:=mkL_by ts (fun j hj=>by have:=h (j+1) (by simp;omega);simpa using this) (mkT t s)
  have ht:=szT_pos t
  exact(h0.trans h1).mono (by omega) (by omega) (by omega)
theorem mkE_by(e:Nat):∀ts:List Tr,ts≠[]→(∀j (hj:j<ts.length),good ts[j])→By (12*szL ts) (8*szL ts - 1) (2*szL ts - 2) (mkE e ts)
 |[],h,_=>absurd rfl h
 |t::ts,_,h=>fun s=>by
  rw[mkE,szL]
  have h0:=mkT_by t (h 0 (by simp))
  have ht:=szT_pos t
  split
  ·exact((h0 s).stand _).mono (by omega) (by omega) (by omega)
  ·rename_i hne
   have hn:ts≠[]:=fun h=>hne (by rw[h];rfl)
   have hs:1≤szL ts:=by
    match ts,hn with
    |u::us,_=>rw[szL];have:=szT_pos u;omega
   have h1:=mkE_by e ts hn (fun j hj=>by have:=h (j+1) (by simp;omega);simpa using this) (splitM e (mkT t) s)
   exact((split_by e h0 s).trans h1).mono (by omega) (by omega) (by omega)
end
theorem made_by{t:Tr}(hg:good t)(hs:szT t≤1000):(madeS t).ops.length≤12000∧(madeS t).lab.length≤8000∧(madeS t).cnt≤2000:=by
 have h:=(mkT_by t hg ⟨[],[],0⟩).add { dn:=15 }
 have h1:=h.ops
 have h2:=h.lab
 have h3:=h.cnt
 have:=szT_pos t
 simp only[List.length_nil]at h1 h2 h3
 unfold madeS
 refine⟨by omega,by omega,by omega⟩
end Go.Proofs.YtfnndcbjklppeaaGreatDoor.Mk
