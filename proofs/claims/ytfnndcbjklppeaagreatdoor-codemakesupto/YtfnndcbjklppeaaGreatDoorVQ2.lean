import Derived.Test.YtfnndcbjklppeaaGreatDoorUY2
import Derived.Test.YtfnndcbjklppeaaGreatDoorUQ2
import Derived.Test.YtfnndcbjklppeaaGreatDoorYC2
import Derived.Test.YtfnndcbjklppeaaGreatDoorVO2
import Derived.Test.YtfnndcbjklppeaaGreatDoorVH2
set_option linter.unusedVariables false
set_option maxHeartbeats 4000000
set_option maxRecDepth 100000
open Go.Proofs.Tryz
namespace Go.Proofs.YtfnndcbjklppeaaGreatDoor.Mk
open Go.RowKit
def emb(o:PO):OpV×RL:=(⟨o.dn,none,o.set.length,0,o.to,o.other,o.kind,o.least,o.fold,o.back⟩,o.set)
structure Pok(g:Int)(s:MS):Prop where
 lab:∀l∈s.lab,l≤s.ops.length
 ops:∀o∈s.ops,opE s.lab.length g s.cnt (emb o)=0
variable {g : Int} {s s' : MS} {f : MS → MS}
theorem hasB_mono{r g z:Int}{n n' c c':Nat}(hn:n≤n')(hc:c≤c')(h:hasB r n g c z=true):hasB r n' g c' z=true:=by
 unfold hasB at h ⊢
 split
 ·rename_i h1;rw[if_pos h1]at h;simp at h ⊢;omega
 ·rename_i h1;rw[if_neg h1]at h
  split
  ·rename_i h2;rw[if_pos h2]at h;exact h
  ·rename_i h2;rw[if_neg h2]at h
   split
   ·rename_i h3;rw[if_pos h3]at h;simp at h ⊢;omega
   ·rfl
theorem opE_ok{n:Nat}{g c:Int}{x:OpV×RL}(h:opE n g c x=0):∃f,fvOf x.1.dn=some f∧formB f x.1=true∧checkE x.2=0∧rangeB f n g c x.1=true:=by
 unfold opE at h
 cases hf:fvOf x.1.dn with
 |none=>rw[hf]at h;simp at h
 |some f=>
  rw[hf]at h
  simp only[]at h
  split at h
  ·exact absurd h (by decide)
  ·rename_i h1
   split at h
   ·rename_i h2;exact absurd h h2
   ·rename_i h2
    split at h
    ·rename_i h3;exact⟨f,rfl,by simpa using h1,by simpa using h2,h3⟩
    ·exact absurd h (by decide)
theorem opE_of{n:Nat}{g c:Int}{x:OpV×RL}{f:FV}(h1:fvOf x.1.dn=some f)(h2:formB f x.1=true)(h3:checkE x.2=0)(h4:rangeB f n g c x.1=true):opE n g c x=0:=by
 unfold opE
 rw[h1]
 simp[h2,h3,h4]
theorem opE_mono{n n' c c':Nat}{g:Int}{x:OpV×RL}(hn:n≤n')(hc:c≤c')(h:opE n g c x=0):opE n' g c' x=0:=by
 obtain⟨f,h1,h2,h3,h4⟩:=opE_ok h
 refine opE_of h1 h2 h3 ?_
 unfold rangeB at h4 ⊢
 simp only[Bool.and_eq_true]at h4 ⊢
 exact⟨hasB_mono hn hc h4.1,hasB_mono hn hc h4.2.1,h4.2.2⟩
theorem Pok.add(h:Pok g s){o:PO}(ho:opE s.lab.length g s.cnt (emb o)=0):Pok g (s.add o):=
 ⟨fun l hl=>by have:=h.lab l hl;simp[MS.add];omega,fun p hp=>by
  rcases List.mem_append.1 hp with hp|hp
  ·exact h.ops p hp
  ·rw[List.mem_singleton.1 hp];exact ho⟩
theorem Pok.newC(h:Pok g s):Pok g s.newC:=⟨h.lab,fun o ho=>opE_mono (leR _) (Nat.le_succ _) (h.ops o ho)⟩
theorem Pok.newL(h:Pok g s):Pok g s.newL:=
 ⟨fun l hl=>by
  rcases List.mem_append.1 hl with hl|hl
  ·exact h.lab l hl
  ·rw[List.mem_singleton.1 hl];exact Nat.zero_le _,fun o ho=>opE_mono (by simp[MS.newL]) (leR _) (h.ops o ho)⟩
theorem Pok.stand(h:Pok g s)(l:Nat):Pok g (s.stand l):=
 ⟨fun x hx=>by
  rcases List.mem_or_eq_of_mem_set hx with hx|hx
  ·exact h.lab x hx
  ·rw[hx];exact leR _,fun o ho=>opE_mono (by simp[MS.stand]) (leR _) (h.ops o ho)⟩
section ops
variable {n : Nat} {c : Nat}
theorem op_set{set:RL}(h:checkE set=0):opE n g c (emb { dn:=1,set:=set })=0:=opE_of (f:=⟨0,0,true,false,false,false,false⟩) rfl (by simp[formB,emb]) h (by simp[rangeB,hasB,emb])
theorem chk0:checkE []=0:=rfl
theorem op_jump{t:Nat}(h:t<n):opE n g c (emb { dn:=2,to:=t })=0:=opE_of (f:=⟨1,0,false,false,false,false,false⟩) rfl (by simp[formB,emb]) chk0 (by simp[rangeB,hasB,emb];repeat' (first|exact decide_eq_true (by omega)|omega|refine⟨?_,?_⟩))
theorem op_split{t o:Nat}(h:t<n)(h':o<n):opE n g c (emb { dn:=3,to:=t,other:=o })=0:=opE_of (f:=⟨1,1,false,false,false,false,false⟩) rfl (by simp[formB,emb]) chk0 (by simp[rangeB,hasB,emb];repeat' (first|exact decide_eq_true (by omega)|omega|refine⟨?_,?_⟩))
theorem op_save{t:Int}{o:Nat}(h:1≤t∧t≤g)(h':o<c):opE n g c (emb { dn:=4,to:=t,other:=o })=0:=opE_of (f:=⟨2,3,false,false,false,false,false⟩) rfl (by simp[formB,emb]) chk0 (by simp[rangeB,hasB,emb];repeat' (first|exact decide_eq_true (by omega)|omega|refine⟨?_,?_⟩))
theorem op_look{k:Int}(h:3≤k∧k≤8):opE n g c (emb { dn:=5,kind:=k })=0:=opE_of (f:=⟨0,0,false,true,false,false,false⟩) rfl (by simp[formB,emb]) chk0 (by simp[rangeB,hasB,emb];repeat' (first|exact decide_eq_true (by omega)|omega|refine⟨?_,?_⟩))
theorem op_again{t:Int}{b:Bool}(h:1≤t∧t≤g):opE n g c (emb { dn:=6,to:=t,fold:=b })=0:=opE_of (f:=⟨2,0,false,false,false,true,false⟩) rfl (by simp[formB,emb]) chk0 (by simp[rangeB,hasB,emb];repeat' (first|exact decide_eq_true (by omega)|omega|refine⟨?_,?_⟩))
theorem op_mark{t:Nat}(h:t<c):opE n g c (emb { dn:=7,to:=t })=0:=opE_of (f:=⟨3,0,false,false,false,false,false⟩) rfl (by simp[formB,emb]) chk0 (by simp[rangeB,hasB,emb];repeat' (first|exact decide_eq_true (by omega)|omega|refine⟨?_,?_⟩))
theorem op_cut{t:Nat}{b:Bool}(h:t<c):opE n g c (emb { dn:=8,to:=t,back:=b })=0:=opE_of (f:=⟨3,0,false,false,false,false,true⟩) rfl (by simp[formB,emb]) chk0 (by simp[rangeB,hasB,emb];repeat' (first|exact decide_eq_true (by omega)|omega|refine⟨?_,?_⟩))
theorem op_count{t:Nat}{l:Int}(h:t<c)(hl:0≤l∧l≤1000):opE n g c (emb { dn:=9,to:=t,least:=l })=0:=opE_of (f:=⟨3,0,false,false,true,false,false⟩) rfl (by simp[formB,emb]) chk0 (by simp[rangeB,hasB,emb];repeat' (first|exact decide_eq_true (by omega)|omega|refine⟨?_,?_⟩))
theorem op_more{t o:Nat}{l:Int}(h:t<c)(ho:o<n)(hl:0≤l∧l≤1000):opE n g c (emb { dn:=10,to:=t,least:=l,other:=o })=0:=opE_of (f:=⟨3,1,false,false,true,false,false⟩) rfl (by simp[formB,emb]) chk0 (by simp[rangeB,hasB,emb];repeat' (first|exact decide_eq_true (by omega)|omega|refine⟨?_,?_⟩))
theorem op_under{t o:Nat}{l:Int}(h:t<c)(ho:o<n)(hl:0≤l∧l≤1000):opE n g c (emb { dn:=11,to:=t,least:=l,other:=o })=0:=opE_of (f:=⟨3,1,false,false,true,false,false⟩) rfl (by simp[formB,emb]) chk0 (by simp[rangeB,hasB,emb];repeat' (first|exact decide_eq_true (by omega)|omega|refine⟨?_,?_⟩))
theorem op_moved{t o:Nat}(h:t<c)(ho:o<n):opE n g c (emb { dn:=12,to:=t,other:=o })=0:=opE_of (f:=⟨3,1,false,false,false,false,false⟩) rfl (by simp[formB,emb]) chk0 (by simp[rangeB,hasB,emb];repeat' (first|exact decide_eq_true (by omega)|omega|refine⟨?_,?_⟩))
theorem op_back{t:Nat}(h:t<c):opE n g c (emb { dn:=13,to:=t })=0:=opE_of (f:=⟨3,0,false,false,false,false,false⟩) rfl (by simp[formB,emb]) chk0 (by simp[rangeB,hasB,emb];repeat' (first|exact decide_eq_true (by omega)|omega|refine⟨?_,?_⟩))
theorem op_fail:opE n g c (emb { dn:=14 })=0:=opE_of (f:=⟨0,0,false,false,false,false,false⟩) rfl (by simp[formB,emb]) chk0 (by simp[rangeB,hasB,emb])
theorem op_match:opE n g c (emb { dn:=15 })=0:=opE_of (f:=⟨0,0,false,false,false,false,false⟩) rfl (by simp[formB,emb]) chk0 (by simp[rangeB,hasB,emb])
end ops
@[simp] theorem add_lab (s:MS) (o:PO):(s.add o).lab=s.lab:=rfl
@[simp] theorem add_cnt (s:MS) (o:PO):(s.add o).cnt=s.cnt:=rfl
@[simp] theorem newC_lab (s:MS):s.newC.lab=s.lab:=rfl
@[simp] theorem newC_cnt (s:MS):s.newC.cnt=s.cnt+1:=rfl
@[simp] theorem newL_lab (s:MS):s.newL.lab.length=s.lab.length+1:=by simp[MS.newL]
@[simp] theorem newL_cnt (s:MS):s.newL.cnt=s.cnt:=rfl
@[simp] theorem stand_lab (s:MS) (l:Nat):(s.stand l).lab.length=s.lab.length:=by simp[MS.stand]
@[simp] theorem stand_cnt (s:MS) (l:Nat):(s.stand l).cnt=s.cnt:=rfl
def Keeps(g:Int)(f:MS→MS):Prop:=∀s:MS,Pok g s→Pok g (f s)
theorem first_ok(b:Bool)(hu:Up f)(hf:Keeps g f):Keeps g (firstM b f):=fun s h=>by
 unfold firstM
 have h1:Pok g (s.newC.add { dn:=7,to:=s.cnt }):=h.newC.add (op_mark (by simp))
 have u:=hu (s.newC.add { dn:=7,to:=s.cnt })
 have:=u.cnt
 simp only[add_cnt,newC_cnt]at this
 exact(hf _ h1).add (op_cut (by omega))
theorem none_ok(hu:Up f)(hf:Keeps g f):Keeps g (noneM f):=fun s h=>by
 unfold noneM
 have h1:=(((h.newC.newL.newL.add (o:={ dn:=7,to:=s.cnt }) (op_mark (by simp))).add (o:={ dn:=3,to:=s.lab.length,other:=(s.lab.length+1:Nat) }) (op_split (by simp;omega) (by simp))).stand s.lab.length)
 have u:=(hu (((s.newC.newL.newL.add { dn:=7,to:=s.cnt }).add { dn:=3,to:=s.lab.length,other:=(s.lab.length+1:Nat) }).stand s.lab.length)).cnt
 simp only[stand_cnt,add_cnt,newL_cnt,newC_cnt]at u
 exact(((hf _ h1).add (op_cut (by omega))).add op_fail).stand _
theorem behind_ok{a b:Int}(ha:0≤a∧a≤1000)(hb:0≤b∧b<1000)(hu:Up f)(hf:Keeps g f):Keeps g (behindM a b f):=fun s h=>by
 unfold behindM
 simp only[]
 have h1:=((((((h.newC.newL.newL.newL.newL.add (o:={ dn:=7,to:=s.cnt }) (op_mark (by simp))).add (o:={ dn:=9,to:=s.cnt,least:=a }) (op_count (by simp) ha)).stand s.lab.length).add (o:={ dn:=13,to:=s.cnt }) (op_back (by simp))).add (o:={ dn:=3,to:=(s.lab.length+1:Nat),other:=(s.lab.length+2:Nat) }) (op_split (by simp) (by simp))).stand (s.lab.length+1))
 have u:=hu ((((((s.newC.newL.newL.newL.newL.add { dn:=7,to:=s.cnt }).add { dn:=9,to:=s.cnt,least:=a }).stand s.lab.length).add { dn:=13,to:=s.cnt }).add { dn:=3,to:=(s.lab.length+1:Nat),other:=(s.lab.length+2:Nat) }).stand (s.lab.length+1))
 have u1:=u.cnt
 have u2:=u.lab
 simp only[stand_lab,stand_cnt,add_lab,add_cnt,newL_lab,newL_cnt,newC_lab,newC_cnt]at u1 u2
 exact(((((((hf _ h1).add (op_moved (by omega) (by omega))).add op_fail).stand _).add (op_more (by simp only[stand_cnt,add_cnt];omega) (by simp only[stand_lab,add_lab];omega) (by omega))).add op_fail).stand _)
theorem choice_ok(r:RV){i e:Nat}(hl:0≤r.least∧r.least≤1000){s:MS}(hi:i<s.lab.length)(he:e<s.lab.length)(hd:0<r.least→r.done<s.cnt)(h:Pok g s):Pok g (choiceM r i e s):=by
 unfold choiceM
 simp only[]
 have h1:Pok g (if 0<r.least then s.add { dn:=11,to:=r.done,least:=r.least,other:=i } else s)∧(if 0<r.least then s.add { dn:=11,to:=r.done,least:=r.least,other:=i } else s).lab=s.lab:=by
  split
  ·rename_i h0;exact⟨h.add (op_under (hd h0) hi hl),rfl⟩
  ·exact⟨h,rfl⟩
 generalize (if 0<r.least then s.add { dn:=11,to:=r.done,least:=r.least,other:=i } else s)=s1 at h1 ⊢
 obtain⟨h1,hlab⟩:=h1
 rw[← hlab]at hi he
 by_cases hw:r.way=2
 ·rw [if_pos hw];split
  ·exact((h1.add (op_split he hi)).stand _).add op_fail
  ·exact h1.add (op_split he hi)
 ·rw [if_neg hw];split
  ·exact((h1.add (op_split hi he)).stand _).add op_fail
  ·exact h1.add (op_split hi he)
theorem round_ok(r:RV)(hl:0≤r.least∧r.least≤1000)(hu:Up f)(hf:Keeps g f){s:MS}(hfl:r.fail<s.lab.length)(hd:r.watched=true→r.done<s.cnt)(h:Pok g s):Pok g (roundM r f s):=by
 unfold roundM
 split
 ·rename_i hw
  have hd:=hd hw
  simp only[]
  have h1:=h.newL.add (o:={ dn:=7,to:=r.done }) (op_mark (by simp;exact hd))
  have u:=hu (s.newL.add { dn:=7,to:=r.done })
  have u1:=u.cnt
  have u2:=u.lab
  simp only[add_lab,add_cnt,newL_lab,newL_cnt]at u1 u2
  have h2:=hf _ h1
  split
  ·exact((h2.add (op_under (by omega) (by omega) hl)).add (op_moved (by simp;omega) (by simp;omega))).stand _
  ·exact(h2.add (op_moved (by omega) (by omega))).stand _
 ·exact hf s h
theorem all_ok(r:RV)(hl:0≤r.least∧r.least≤1000)(hm:r.most≤1000)(hu:Up f)(hf:Keeps g f)(hc:0<r.least→r.counted=true){s:MS}(hfl:r.fail<s.lab.length)(hd:r.counted=true∨r.watched=true→r.done<s.cnt)(h:Pok g s):Pok g (allM r f s):=by
 unfold allM
 simp only[]
 have h1:Pok g ((if r.counted then s.newL.newL.newL.add { dn:=9,to:=r.done } else s.newL.newL.newL).stand s.lab.length)∧((if r.counted then s.newL.newL.newL.add { dn:=9,to:=r.done } else s.newL.newL.newL).stand s.lab.length).lab.length=s.lab.length+3∧((if r.counted then s.newL.newL.newL.add { dn:=9,to:=r.done } else s.newL.newL.newL).stand s.lab.length).cnt=s.cnt:=by
  split
  ·rename_i h0
   exact⟨(h.newL.newL.newL.add (op_count (by simp;exact hd (.inl h0)) (by omega))).stand _,by simp,rfl⟩
  ·exact⟨h.newL.newL.newL.stand _,by simp,rfl⟩
 generalize ((if r.counted then s.newL.newL.newL.add { dn:=9,to:=r.done } else s.newL.newL.newL).stand s.lab.length)=s2 at h1 ⊢
 obtain⟨h1,l2,c2⟩:=h1
 have h2:Pok g ((if r.least=r.most then s2 else choiceM r (s.lab.length+1) (s.lab.length+2) s2).stand (s.lab.length+1))∧s2.le ((if r.least=r.most then s2 else choiceM r (s.lab.length+1) (s.lab.length+2) s2).stand (s.lab.length+1)):=by
  split
  ·exact⟨h1.stand _,le_stand _ _⟩
  ·exact⟨(choice_ok r hl (by omega) (by omega) (fun h0=>by rw[c2];exact hd (.inl (hc h0))) h1).stand _,(choice_up r _ _ _).trans (le_stand _ _)⟩
 generalize ((if r.least=r.most then s2 else choiceM r (s.lab.length+1) (s.lab.length+2) s2).stand (s.lab.length+1))=s3 at h2 ⊢
 obtain⟨h2,u2⟩:=h2
 have hc3:=u2.cnt
 have hl3:=u2.lab
 have u3:=round_up r hu s3
 have h3:=round_ok r hl hu hf (s:=s3) (by omega) (fun hw=>by have:=hd (.inr hw);omega) h2
 generalize roundM r f s3=s4 at h3 u3 ⊢
 have hc4:=u3.cnt
 have hl4:=u3.lab
 by_cases hcc:r.counted=true
 ·have hdd:=hd (.inl hcc)
  have h4:=h3.add (o:={ dn:=10,to:=r.done,least:=if 0<r.most then r.most else 0,other:=s.lab.length }) (op_more (by omega) (by omega) (by split<;>omega))
  simp only[hcc,if_true]
  split
  ·exact(h4.add (op_jump (by simp;omega))).stand _
  ·exact h4.stand _
 ·simp only[hcc]
  split
  ·exact(h3.add (op_jump (by omega))).stand _
  ·exact h3.stand _
theorem rounds_ok{i j:Int}(k l:Int)(hl:0≤i∧i≤1000)(hm:j≤1000)(hu:Up f)(hf:Keeps g f):Keeps g (roundsM i j k l f):=fun s h=>by
 unfold roundsM
 simp only[]
 split
 ·exact all_ok _ hl hm hu hf (fun h0=>by simp only[];rw[decide_eq_true h0];rfl) (s:=s.newL.newC) (by simp) (fun _=>by simp) h.newL.newC
 ·rename_i hn
  refine all_ok _ hl hm hu hf (fun h0=>by simp only[];rw[decide_eq_true h0];rfl) (s:=s.newL) (by simp) (fun h0=>?_) h.newL
  exfalso
  apply hn
  rcases h0 with h0|h0<;>simp only[]at h0<;>rw[h0]<;>simp
theorem rep_ok{i j:Int}(k l:Int)(hl:0≤i∧i≤1000)(hm:j≤1000)(hu:Up f)(hf:Keeps g f):Keeps g (repM i j k l f):=fun s h=>by
 unfold repM
 split
 ·exact h
 ·split
  ·exact first_ok _ (rounds_up _ _ _ _ hu) (rounds_ok k l hl hm hu hf) s h
  ·exact rounds_ok k l hl hm hu hf s h
theorem split_ok{e:Nat}(hu:Up f)(hf:Keeps g f){s:MS}(he:e<s.lab.length)(h:Pok g s):Pok g (splitM e f s):=by
 unfold splitM
 simp only[]
 have h1:=(h.newL.newL.add (o:={ dn:=3,to:=s.lab.length,other:=(s.lab.length+1:Nat) }) (op_split (by simp;omega) (by simp))).stand s.lab.length
 have u:=(hu ((s.newL.newL.add { dn:=3,to:=s.lab.length,other:=(s.lab.length+1:Nat) }).stand s.lab.length)).lab
 simp only[stand_lab,add_lab,newL_lab]at u
 exact((hf _ h1).add (op_jump (by omega))).stand _
def LM(f:FT):Prop:=0≤f.least∧(0≤f.most→f.least≤f.most)
theorem addF_lm{a b:FT}(ha:LM a)(hb:LM b):LM (addF a b):=by
 unfold LM at*
 simp only[addF,leastF,addM,mostF]
 refine⟨?_,?_⟩
 ·split<;>omega
 ·repeat' split
  all_goals omega
theorem orF_lm{a b:FT}(ha:LM a)(hb:LM b):LM (orF a b):=by
 unfold LM at*
 simp only[orF,maxM]
 refine⟨?_,?_⟩
 ·split<;>omega
 ·repeat' split
  all_goals omega
theorem repF_lm{f:FT}{l m:Int}(hf:LM f)(hl:0≤l)(hm:m= -1∨l≤m):LM (repF f l m):=by
 obtain⟨f0,f1⟩:=hf
 have h0:0≤f.least*l:=Int.mul_nonneg f0 hl
 unfold LM
 simp only[repF,leastF,timM,mostF]
 refine⟨?_,?_⟩
 ·split<;>omega
 ·by_cases hz:f.most=0∨m=0
  ·rw [if_pos hz]
   intro _
   have:f.least*l=0:=by
    rcases hz with hz|hz
    ·have :f.least=0:=by have:=f1 (by omega);omega
     rw[this,Int.zero_mul]
    ·have :l=0:=by omega
     rw[this,Int.mul_zero]
   rw[this]
   split<;>omega
  ·rw [if_neg hz]
   by_cases hn:f.most<0∨m<0
   ·rw[if_pos hn];intro h;omega
   ·rw [if_neg hn]
    have h1:f.least*l≤f.most*m:=Int.mul_le_mul (f1 (by omega)) (by omega) hl (by omega)
    repeat' split
    all_goals omega
theorem foldl_lm{op:FT→FT→FT}(hop:∀a b,LM a→LM b→LM (op a b)):∀(l:List FT) (a:FT),LM a→(∀f∈l,LM f)→LM (l.foldl op a)
 |[],a,h,_=>h
 |x::l,a,h,hl=>foldl_lm hop l (op a x) (hop a x h (hl x (List.mem_cons_self ..))) fun f hf=>hl f (List.mem_cons_of_mem _ hf)
theorem lm0(b:Bool):LM ⟨0,0,b⟩:=⟨Int.le_refl _,fun _=>Int.le_refl _⟩
theorem foldF_lm{op:FT→FT→FT}(hop:∀a b,LM a→LM b→LM (op a b))(l:List FT)(hl:∀f∈l,LM f):LM (foldF op l):=by
 match l,hl with
 |[],_=>exact lm0 _
 |f::fs,hl=>exact foldl_lm hop fs f (hl f (List.mem_cons_self ..)) fun x hx=>hl x (List.mem_cons_of_mem _ hx)
theorem headF_lm(l:List FT)(hl:∀f∈l,LM f):LM (headF l):=by
 match l,hl with
 |[],_=>exact lm0 _
 |f::fs,hl=>exact hl f (List.mem_cons_self ..)
theorem repE_in{t:Tr}(h:repE t=0):(0≤t.least∧t.least≤100)∧(t.most= -1∨t.least≤t.most∧t.most≤100):=by
 unfold repE at h
 split at h
 ·exact absurd h (by decide)
 ·rename_i h3
  split at h
  ·exact absurd h (by decide)
  ·rename_i h4
   omega
theorem nodeS_in{t:Tr}{s s':St}(h:nodeS t s=.ok s'):checkE t.set=0∧(t.kind=11→t.num=s'.1∧s'.1=s.1+1)∧(t.kind=18→t.num∈s'.2)∧∀a∈s.2,a∈s'.2:=by
 unfold nodeS at h
 split at h
 ·cases h
 ·split at h
  ·cases h
  ·split at h
   ·cases h
   ·rename_i hc
    refine⟨by simpa using hc,?_⟩
    split at h
    ·rename_i k12
     split at h
     ·cases h;exact⟨fun e=>by omega,fun e=>by omega,fun _ h=>h⟩
     ·cases h
    ·split at h
     ·split at h
      ·rename_i hn;cases h;exact⟨fun _=>⟨hn,rfl⟩,fun e=>by omega,fun _ h=>h⟩
      ·cases h
     ·rename_i k11
      split at h
      ·cases h;exact⟨fun e=>absurd e k11,fun _=>List.mem_append_right _ (List.mem_singleton.2 rfl),fun _ h=>List.mem_append_left _ h⟩
      ·rename_i k18
       cases h;exact⟨fun e=>absurd e k11,fun e=>absurd e k18,fun _ h=>h⟩
theorem behB_in{t:Tr}(h:bhB t=true)(hk:t.kind=16∨t.kind=17):0≤most0 t.kids∧most0 t.kids≤100:=by
 unfold bhB at h
 have e:(decide (t.kind=16)||decide (t.kind=17))=true:=by rcases hk with h|h<;>simp[h]
 rw[e]at h
 simpa using h
mutual
theorem factT_lm:∀t:Tr,good t→LM (factT t)
 | .mk k num least most way fold set kids,hg=>by
  have hn:=good_node hg
  have hl:=factL_lm kids (fun j hj=>good_kids hg j hj)
  rw[factT]
  unfold factK
  by_cases h1:k=1
  ·rw[if_pos h1];exact lm0 _
  rw[if_neg h1]
  by_cases h2:k=2
  ·rw[if_pos h2];exact⟨by decide,fun _=>by decide⟩
  rw[if_neg h2]
  by_cases h9:k=9
  ·rw[if_pos h9];exact foldF_lm (fun _ _=>addF_lm) _ hl
  rw[if_neg h9]
  by_cases h10:k=10
  ·rw[if_pos h10];exact foldF_lm (fun _ _=>orF_lm) _ hl
  rw[if_neg h10]
  by_cases h11:k=11∨k=13
  ·rw[if_pos h11];exact headF_lm _ hl
  rw[if_neg h11]
  by_cases h12:k=12
  ·rw [if_pos h12]
   have hr:=repE_in (hn.2.2 h12)
   simp only[Tr.least,Tr.most]at hr
   exact repF_lm (headF_lm _ hl) (by omega) (by omega)
  rw[if_neg h12]
  by_cases h18:k=18
  ·rw[if_pos h18];exact⟨by decide,fun h=>absurd h (by decide)⟩
  rw[if_neg h18]
  exact lm0 _
theorem factL_lm:∀ts:List Tr,(∀j (hj:j<ts.length),good ts[j])→∀f∈factL ts,LM f
 |[],_=>fun f hf=>by rw[factL]at hf;cases hf
 |t::ts,h=>fun f hf=>by
  rw[factL]at hf
  rcases List.mem_cons.1 hf with rfl|hf
  ·exact factT_lm t (h 0 (by simp))
  ·exact factL_lm ts (fun j hj=>by have:=h (j+1) (by simp;omega);simpa using this) f hf
end
mutual
theorem chkT_sub:∀(t:Tr) (s s':St),chkT t s=.ok s'→∀a∈s.2,a∈s'.2
 | .mk k a b c d e f kids,s,s',h=>by
  rw[chkT_kids]at h
  cases hn:nodeS (.mk k a b c d e f kids) s with
  |error z=>rw[hn]at h;cases h
  |ok s1=>
   rw[hn]at h
   intro x hx
   exact chkL_sub kids s1 s' h x ((nodeS_in hn).2.2.2 x hx)
theorem chkL_sub:∀(ts:List Tr) (s s':St),chkL ts s=.ok s'→∀a∈s.2,a∈s'.2
 |[],s,s',h=>by unfold chkL at h;injection h with h;rw[h];exact fun _ h=>h
 |t::ts,s,s',h=>by
  unfold chkL at h
  cases hn:chkT t s with
  |error z=>rw[hn]at h;cases h
  |ok s1=>rw[hn]at h;exact fun x hx=>chkL_sub ts s1 s' h x (chkT_sub t s s1 hn x hx)
end
theorem head0_eq{t:Tr}{ts:List Tr}:head0 (t::ts)=factT t:=by unfold head0;rw[factL];rfl
variable {g : Int}
mutual
theorem mkT_ok:∀(t:Tr) (s0 s1:St),chkT t s0=.ok s1→0≤s0.1→s1.1≤g→(∀a∈s1.2,1≤a∧a≤g)→bhA t=true→Keeps g (mkT t)
 | .mk k num least most way fold set kids,s0,s1,h,h0,h1,ha,hb=>fun s hs=>by
  have hg:good (.mk k num least most way fold set kids):=⟨s0,s1,h⟩
  have hgn:=good_node hg
  have hgk:∀j (hj:j<kids.length),good kids[j]:=good_kids hg
  have hkb:=hgn.2.1
  rw[chkT_kids]at h
  rw[bhA_kids]at hb
  simp only[Bool.and_eq_true]at hb
  obtain⟨hb1,hb2⟩:=hb
  have hb2:kids.all bhA=true:=hb2
  cases hn:nodeS (.mk k num least most way fold set kids) s0 with
  |error z=>rw[hn]at h;cases h
  |ok sm=>
   rw[hn]at h
   have h:chkL kids sm=.ok s1:=h
   have hgr:=chkL_grow kids sm s1 h
   have hsub:=chkL_sub kids sm s1 h
   have hng:=nodeS_grow hn
   have hin:=nodeS_in hn
   have hset:checkE set=0:=hin.1
   have hH:11≤k∧k≤17→Keeps g (mkH kids)∧∃t,kids=[t]:=fun hr=>by
    unfold kidsB at hkb
    rw[if_neg (by show ¬k=9;omega),if_neg (by show ¬k=10;omega),if_pos (by show 11≤k∧k≤17;omega)]at hkb
    have hl:kids.length=1:=of_decide_eq_true hkb
    match kids,hl,h,hb2 with
    |[t],_,h,hb2=>
     unfold chkL at h
     cases hc:chkT t sm with
     |error z=>rw[hc]at h;cases h
     |ok s2=>
      rw[hc]at h
      unfold chkL at h
      injection h with h
      rw[h]at hc
      exact⟨fun s hs=>by unfold mkH;exact mkT_ok t sm s1 hc (by omega) h1 ha (by simpa using hb2) s hs,t,rfl⟩
   have hbeh:k=16∨k=17→(0≤(head0 kids).least∧(head0 kids).least≤1000)∧(0≤(head0 kids).most∧(head0 kids).most<1000):=fun hr=>by
    obtain⟨_,t,rfl⟩:=hH (by omega)
    have hlm:=factT_lm t (hgk 0 (by simp))
    have hb1:=behB_in hb1 hr
    have e:most0 [t]=(factT t).most:=most0_at (ts:=[t]) (by simp)
    have hb1:0≤most0 [t]∧most0 [t]≤100:=hb1
    rw[e]at hb1
    rw[head0_eq]
    have:=hlm.2 hb1.1
    exact⟨⟨hlm.1,by omega⟩,hb1.1,by omega⟩
   have uH:=mkH_up kids
   unfold mkT
   by_cases e1:k=1
   ·rw[if_pos e1];exact hs
   rw[if_neg e1]
   by_cases e2:k=2
   ·rw[if_pos e2];exact hs.add (op_set hset)
   rw[if_neg e2]
   by_cases e9:k=9
   ·rw[if_pos e9];exact mkL_ok kids sm s1 h (by omega) h1 ha hb2 s hs
   rw[if_neg e9]
   by_cases e10:k=10
   ·rw [if_pos e10]
    exact mkE_ok kids sm s1 h (by omega) h1 ha hb2 s.lab.length s.newL (by simp) hs.newL
   rw[if_neg e10]
   by_cases e11:k=11
   ·rw [if_pos e11]
    have hnum:num=sm.1∧sm.1=s0.1+1:=hin.2.1 e11
    have hk1:=hs.newC.add (o:={ dn:=7,to:=s.cnt }) (op_mark (by simp))
    have u:=(uH (s.newC.add { dn:=7,to:=s.cnt })).cnt
    simp only[add_cnt,newC_cnt]at u
    exact((hH (by omega)).1 _ hk1).add (op_save (by omega) (by omega))
   rw[if_neg e11]
   by_cases e12:k=12
   ·rw [if_pos e12]
    have hr:=repE_in (hgn.2.2 e12)
    simp only[Tr.least,Tr.most]at hr
    exact rep_ok _ _ (by omega) (by omega) uH (hH (by omega)).1 s hs
   rw[if_neg e12]
   by_cases e13:k=13
   ·rw[if_pos e13];exact first_ok _ uH (hH (by omega)).1 s hs
   rw[if_neg e13]
   by_cases e14:k=14
   ·rw[if_pos e14];exact first_ok _ uH (hH (by omega)).1 s hs
   rw[if_neg e14]
   by_cases e15:k=15
   ·rw[if_pos e15];exact none_ok uH (hH (by omega)).1 s hs
   rw[if_neg e15]
   by_cases e16:k=16
   ·rw [if_pos e16]
    obtain⟨b1,b2⟩:=hbeh (.inl e16)
    exact first_ok _ (behind_up _ _ uH) (behind_ok b1 b2 uH (hH (by omega)).1) s hs
   rw[if_neg e16]
   by_cases e17:k=17
   ·rw [if_pos e17]
    obtain⟨b1,b2⟩:=hbeh (.inr e17)
    exact none_ok (behind_up _ _ uH) (behind_ok b1 b2 uH (hH (by omega)).1) s hs
   rw[if_neg e17]
   by_cases e18:k=18
   ·rw [if_pos e18]
    have hnum:num∈sm.2:=hin.2.2.1 e18
    exact hs.add (op_again (ha num (hsub num hnum)))
   rw[if_neg e18]
   have hkk:1≤k∧k≤18:=hgn.1
   exact hs.add (op_look (by omega))
theorem mkL_ok:∀(ts:List Tr) (s0 s1:St),chkL ts s0=.ok s1→0≤s0.1→s1.1≤g→(∀a∈s1.2,1≤a∧a≤g)→ts.all bhA=true→Keeps g (mkL ts)
 |[],s0,s1,h,h0,h1,ha,hb=>fun s hs=>by rw[mkL];exact hs
 |t::ts,s0,s1,h,h0,h1,ha,hb=>fun s hs=>by
  unfold chkL at h
  simp only[List.all_cons,Bool.and_eq_true]at hb
  cases hc:chkT t s0 with
  |error z=>rw[hc]at h;cases h
  |ok s2=>
   rw[hc]at h
   have h:chkL ts s2=.ok s1:=h
   have g1:=chkT_grow t s0 s2 hc
   have g2:=chkL_grow ts s2 s1 h
   rw[mkL]
   exact mkL_ok ts s2 s1 h (by omega) h1 ha hb.2 _ (mkT_ok t s0 s2 hc h0 (by omega) (fun a hx=>ha a (chkL_sub ts s2 s1 h a hx)) hb.1 s hs)
theorem mkE_ok:∀(ts:List Tr) (s0 s1:St),chkL ts s0=.ok s1→0≤s0.1→s1.1≤g→(∀a∈s1.2,1≤a∧a≤g)→ts.all bhA=true→∀(e:Nat) (s:MS),e<s.lab.length→Pok g s→Pok g (mkE e ts s)
 |[],s0,s1,h,h0,h1,ha,hb=>fun e s he hs=>by rw[mkE];exact hs
 |t::ts,s0,s1,h,h0,h1,ha,hb=>fun e s he hs=>by
  unfold chkL at h
  simp only[List.all_cons,Bool.and_eq_true]at hb
  cases hc:chkT t s0 with
  |error z=>rw[hc]at h;cases h
  |ok s2=>
   rw[hc]at h
   have h:chkL ts s2=.ok s1:=h
   have g1:=chkT_grow t s0 s2 hc
   have g2:=chkL_grow ts s2 s1 h
   have hk:Keeps g (mkT t):=mkT_ok t s0 s2 hc h0 (by omega) (fun a hx=>ha a (chkL_sub ts s2 s1 h a hx)) hb.1
   rw[mkE]
   split
   ·exact(hk s hs).stand _
   ·have u:=(split_up e (mkT_up t) s).lab
    exact mkE_ok ts s2 s1 h (by omega) h1 ha hb.2 e _ (by omega) (split_ok (mkT_up t) hk he hs)
end
theorem opE_setl{lab:List Nat}{n:Nat}{c:Int}{o:PO}(hl:∀l∈lab,l<n)(h:opE lab.length g c (emb o)=0):opE n g c (emb (setl lab o))=0:=by
 obtain⟨f,h1,h2,h3,h4⟩:=opE_ok h
 have hat:∀z:Int,0≤z→z<lab.length→(0:Int)≤(lab.getD z.toNat 0:Nat)∧((lab.getD z.toNat 0:Nat):Int)<n:=fun z z0 z1=>by
  have hz:z.toNat<lab.length:=by omega
  have:=hl _ (List.getElem_mem hz)
  rw[List.getD_eq_getElem?_getD,List.getElem?_eq_getElem hz]
  simp only[Option.getD_some]
  omega
 have h1':fvOf o.dn=some f:=h1
 have hrole:(toOp o.dn=decide (f.to=1))∧(otOp o.dn=decide (f.other=1)):=by
  unfold fvOf at h1'
  split at h1'
  ·rename_i hr
   have hc:o.dn=1∨o.dn=2∨o.dn=3∨o.dn=4∨o.dn=5∨o.dn=6∨o.dn=7∨o.dn=8∨o.dn=9∨o.dn=10∨o.dn=11∨o.dn=12∨o.dn=13∨o.dn=14∨o.dn=15:=by omega
   rcases hc with e|e|e|e|e|e|e|e|e|e|e|e|e|e|e<;>(rw[e]at h1' ⊢;simp[fvL]at h1';subst h1';decide)
  ·cases h1'
 refine opE_of (f:=f) h1 ?_ h3 ?_
 ·unfold formB at h2 ⊢
  simp only[emb,setl,hrole.1,hrole.2]at h2 ⊢
  simp only[Bool.and_eq_true]at h2 ⊢
  obtain⟨⟨⟨⟨⟨⟨a1,a2⟩,a3⟩,a4⟩,a5⟩,a6⟩,a7⟩:=h2
  refine⟨⟨⟨⟨⟨⟨?_,?_⟩,a3⟩,a4⟩,a5⟩,a6⟩,a7⟩
  ·by_cases e:f.to=1
   ·rw[e];rfl
   ·have e2:(if decide (f.to=1)=true then((lab.getD o.to.toNat 0:Nat):Int)else o.to)=o.to:=by rw[decide_eq_false e];rfl
    simp only[e2];exact a1
  ·by_cases e:f.other=1
   ·rw[e];rfl
   ·have e2:(if decide (f.other=1)=true then((lab.getD o.other.toNat 0:Nat):Int)else o.other)=o.other:=by rw[decide_eq_false e];rfl
    simp only[e2];exact a2
 ·unfold rangeB at h4 ⊢
  simp only[emb,setl,hrole.1,hrole.2]at h4 ⊢
  simp only[Bool.and_eq_true]at h4 ⊢
  obtain⟨a1,a2,a3⟩:=h4
  refine⟨?_,?_,a3⟩
  ·unfold hasB at a1 ⊢
   by_cases e:f.to=1
   ·rw [if_pos e]at a1 ⊢
    simp only[Bool.and_eq_true,decide_eq_true_eq]at a1
    have:=hat _ a1.1 a1.2
    simp only[e,decide_true,if_true,Bool.and_eq_true,decide_eq_true_eq]
    exact this
   ·rw [if_neg e]at a1 ⊢
    simpa only[decide_eq_false e,Bool.false_eq_true,if_false]using a1
  ·unfold hasB at a2 ⊢
   by_cases e:f.other=1
   ·rw [if_pos e]at a2 ⊢
    simp only[Bool.and_eq_true,decide_eq_true_eq]at a2
    have:=hat _ a2.1 a2.2
    simp only[e,decide_true,if_true,Bool.and_eq_true,decide_eq_true_eq]
    exact this
   ·rw [if_neg e]at a2 ⊢
    simpa only[decide_eq_false e,Bool.false_eq_true,if_false]using a2
theorem made_pok{t:Tr}(h:treeE t g=0)(hb:bhA t=true):(0≤g∧g≤20)∧Pok g (mkT t ⟨[],[],0⟩):=by
 obtain⟨s1,hc,h20,hg1,hnum⟩:∃s1,chkT t (0,[])=.ok s1∧s1.1≤20∧s1.1=g∧numsE s1.1 s1.2=0:=by
  unfold treeE at h
  cases hc:chkT t (0,[])with
  |error z=>
   rw[hc]at h
   exact absurd h (chkT_errz _ _ _ hc)
  |ok s1=>
   rw[hc]at h
   simp only[]at h
   unfold countsE at h
   refine⟨s1,rfl,?_⟩
   repeat' split at h
   all_goals first
    |(exact absurd h (by decide))
    |(exact⟨by omega,by assumption,h⟩)
    |(exfalso;simp_all;done)
 have hnums:∀{l:List Int} {k:Int},numsE k l=0→∀a∈l,1≤a∧a≤k:=fun {l k}=>by
  induction l with
  |nil=>intro _ a ha;cases ha
  |cons x l ih=>
   intro hx a ha
   unfold numsE at hx
   split at hx
   ·rename_i h1
    rcases List.mem_cons.1 ha with rfl|ha
    ·unfold numE at h1
     split at h1
     ·assumption
     ·exact absurd h1 (by decide)
    ·exact ih hx a ha
   ·exact absurd hx (by decide)
 have hg0:=(chkT_grow t _ _ hc).1
 simp only[]at hg0
 have hP:Pok g ⟨[],[],0⟩:=⟨fun _ h=>(by cases h),fun _ h=>(by cases h)⟩
 exact⟨by omega,mkT_ok t _ _ hc (Int.le_refl _) (by omega) (fun a ha=>by have:=hnums hnum a ha;omega) hb _ hP⟩
theorem made_ok{t:Tr}(h:treeE t g=0)(hz:szT t≤1000)(hb:bhA t=true)(hgood:good t):progE (madeO t).length g (madeS t).cnt ((madeO t).map emb)=0:=by
 obtain⟨hg,hP0⟩:=made_pok h hb
 have hP1:Pok g (madeS t):=hP0.add op_match
 have hby:=made_by hgood hz
 have hlab:∀l∈(madeS t).lab,l<(madeS t).ops.length:=fun l hl=>by
  have h1:l≤(mkT t ⟨[],[],0⟩).ops.length:=hP0.lab l hl
  unfold madeS
  simp only[MS.add,List.length_append,List.length_singleton]
  omega
 have hlen:(madeO t).length=(madeS t).ops.length:=by unfold madeO;simp
 unfold progE
 rw[if_neg (by rw[hlen];omega),if_neg (by omega)]
 have hops:opsE (madeO t).length g (madeS t).cnt ((madeO t).map emb)=0:=by
  refine opsE_all fun i hi=>?_
  rw[List.getElem_map]
  have hi':i<(madeS t).ops.length:=by rw[← hlen];simpa using hi
  have e:(madeO t)[i]'(by simpa using hi)=setl (madeS t).lab (madeS t).ops[i]:=by unfold madeO;rw[List.getElem_map]
  rw[e,hlen]
  exact opE_setl hlab (hP1.ops _ (List.getElem_mem hi'))
 rw[if_neg (by rw[hops];simp)]
 have hend:endB ((madeO t).map emb)=true:=by
  unfold endB madeO madeS
  simp[MS.add,setl,toOp,otOp,emb,endD]
 rw[if_pos hend]
end Go.Proofs.YtfnndcbjklppeaaGreatDoor.Mk
namespace Go.Proofs.YtfnndcbjklppeaaGreatDoor
open Go.RowKit
theorem pat_right{t:Tr}{g:Int}{N:NmL}(h:PatE t g N 0):cntA t<1001∧good t:=by
 rcases h with⟨_,h⟩|⟨h1,h⟩
 ·omega
 ·refine ⟨h1,?_⟩
  have hz:treeE t g=0:=by
   rcases h with⟨h2,h3⟩|⟨h2,_,h3⟩|⟨h2,_⟩
   ·exact h3.symm
   ·exact h2
   ·exact h2
  unfold treeE at hz
  split at hz
  ·rename_i z hz2;exact absurd hz (chkT_errz _ _ _ hz2)
  ·rename_i s hs;exact⟨_,_,hs⟩
def BehE(t:Tr)(g:Int)(N:NmL)(z:Int):Prop:=(PatE t g N z∧z≠0)∨(PatE t g N 0∧z=if bhA t then 0 else 9)
theorem BehE.one{t:Tr}{g:Int}{N:NmL}{z z':Int}(h:BehE t g N z)(h':BehE t g N z'):z=z':=by
 rcases h with⟨h1,h2⟩|⟨h1,h2⟩<;>rcases h' with⟨h3,h4⟩|⟨h3,h4⟩
 ·exact h1.one h3
 ·exact absurd (h1.one h3) h2
 ·exact absurd (h3.one h1) h4
 ·rw[h2,h4]
theorem factsCheck_any(n:NV)(t:Tr)(g:Int)(na:Option Addr)(nl nc:Nat)(N:NmL)(w:World)(h:NodeC w n t)(hNm:NamesC w (.slice na nl nc) N):Calls prog 21 #[patNV n g na nl nc] w fun e w'=>∃z,BehE t g N z∧e=.returned (.int .i64 z)∧Below w.heap.size w w':=by
 have hb:Below w.heap.size w (w.alloc (patNO n g na nl nc)):=allocB _ _
 have HC:=hide (showCheck_any n t g na nl nc N _ (h.box (patNO n g na nl nc)) (hNm.below hb))
 have HHW:=hide (fun hg W hW=>hasWidths_any h hg W hW)
 obtain⟨w1,hw1⟩:=named (w.alloc (patNO n g na nl nc))
 have hbox:w1.heap[w.heap.size]? =some (patNO n g na nl nc):=by rw[hw1];exact at_new _ _
 rw[← hw1]at hb HC
 have HB:=hide hb
 have HX:=hide hbox
 obtain⟨⟨d0,d1,d2,d3,d4,d5,d6,d7⟩,d8,d9⟩:=patN_cells hbox
 simp only[patNO]at hw1
 simp only[patNV]at HC ⊢
 clear h hNm hb hbox
 go_enter func21,ntmps21
 go_wp2_with fail
 rw[← hw1]
 clear hw1
 refine HC.out.mono ?_
 rintro e w2 ⟨z,hz,rfl,hb2⟩
 have HB2:=hide (HB.out.andT hb2)
 have HX2:=hide (show w2.heap[w.heap.size]? =some (patNO n g na nl nc) by rw[hb2.block _ (lt_of_block HX.out)];exact HX.out)
 clear hb2 HC d0 d1 d2 d3 d4 d5 d6 d7 d8 d9 HX HB
 by_cases hz0:z=0
 ·subst hz0
  obtain⟨⟨d0,d1,d2,d3,d4,d5,d6,d7⟩,d8,d9⟩:=patN_cells HX2.out
  have HCh:=hide (HHW.out (pat_right hz).2 w2 HB2.out)
  have HBz:Hid (∀y,y=(if bhA t then 0 else 9)→BehE t g N y):=fun y hy=>.inr ⟨hz,hy⟩
  obtain⟨b,hb⟩:=named (bhA t)
  rw[← hb]at HCh HBz
  clear hz hb HHW
  go_wp2_with fail
  refine HCh.out.mono ?_
  rintro e w3 ⟨rfl,hb3⟩
  have HB3:=hide (HB2.out.andT hb3)
  clear hb3 HCh d0 d1 d2 d3 d4 d5 d6 d7 d8 d9
  cases b with
  |true=>
   have HE:=hide (HBz.out 0 rfl)
   clear HBz
   go_wp2
   go_ret
   exact⟨0,HE.out,rfl,HB3.out⟩
  |false=>
   have HE:=hide (HBz.out 9 rfl)
   clear HBz
   go_wp2
   go_ret
   exact⟨9,HE.out,rfl,HB3.out⟩
 ·have HE:Hid (BehE t g N z):=.inl ⟨hz,hz0⟩
  have bz:(z==0)=false:=by simpa using hz0
  have bz2:(z !=0)=true:=by simpa using hz0
  clear hz hz0 HHW
  go_wp2
  go_ret
  exact⟨z,HE.out,rfl,HB2.out⟩
end Go.Proofs.YtfnndcbjklppeaaGreatDoor
namespace Go.Proofs.YtfnndcbjklppeaaGreatDoor.Mk
open Go.RowKit
variable {w w' : World} {mb : Nat} {g : Int} {s s' : MS}
abbrev nodeA(mb:Nat)(n:NV):Array Value:=#[.pointer (some ⟨mb,0,none⟩),nvV n]
theorem enters1(args:Array Value)(w:World):(callFunc 70 args).run prog w=.ok (.enter 70 args) w:=by first|rfl|kernel_rfl
theorem enters2(args:Array Value)(w:World):(callFunc 71 args).run prog w=.ok (.enter 71 args) w:=by first|rfl|kernel_rfl
theorem enters3(args:Array Value)(w:World):(callFunc 73 args).run prog w=.ok (.enter 73 args) w:=by first|rfl|kernel_rfl
theorem enters4(args:Array Value)(w:World):(callFunc 74 args).run prog w=.ok (.enter 74 args) w:=by first|rfl|kernel_rfl
theorem enters5(args:Array Value)(w:World):(callFunc 76 args).run prog w=.ok (.enter 76 args) w:=by first|rfl|kernel_rfl
theorem arm1(h:MB w mb g s)(n:NV)(hk:n.kind=1):Calls prog 42 (nodeA mb n) w fun e w'=>MkE mb g s w e w':=by
 have hlt:=h.lt
 obtain⟨W,hW,hM,hT,hp,hn⟩:=two_box h n
 have HT:=hide hT
 have p0:W.cell? ⟨w.heap.size,0,none⟩=some (.pointer (some ⟨mb,0,none⟩)):=by simp[World.cell?,hp]
 obtain⟨d0,d1,d2,d3,d4,d5,d6,d7⟩:=nv_cells hn
 simp only[Nat.zero_add]at d0 d1 d2 d3 d4 d5 d6 d7
 rw[hk]at d0
 simp only[nvO]at hW
 have HH:=hide hM
 clear h hp hn hT hM hk
 go_enter func42,ntmps42
 go_upto_region 1 with fail
 rw[← hW]
 clear hW
 go_wp2
 go_end0
 exact⟨rfl,HH.out,HT.out⟩
theorem arm10(h:MB w mb g s)(n:NV)(hk:n.kind=10)(x:Addr)(m:Nat)(ts:List Tr)(vs:Nat→NV)(hka:n.ka=some x)(hkl:n.kl=m+1)(hlen:ts.length=m+1)(hmx:m+1≤n.kc∧n.kc≤9223372036854775807)(hK:∀j,j<ts.length→∀W,Step mb w W→NCells W (x.add (j*8)) (vs j))(hf:∀j (hj:j<ts.length),DoesF mb g w 42 (nodeA mb (vs j)) (mkT ts[j]))(hs:(mkE s.lab.length ts s.newL).fits):Calls prog 42 (nodeA mb n) w fun e w'=>MkE mb g (mkE s.lab.length ts s.newL) w e w':=by
 have hlt:=h.lt
 obtain⟨W,hW,hM,hT,hp,hn⟩:=two_box h n
 have HT:=hide hT
 have p0:W.cell? ⟨w.heap.size,0,none⟩=some (.pointer (some ⟨mb,0,none⟩)):=by simp[World.cell?,hp]
 obtain⟨d0,d1,d2,d3,d4,d5,d6,d7⟩:=nv_cells hn
 simp only[Nat.zero_add]at d0 d1 d2 d3 d4 d5 d6 d7
 rw[hk]at d0
 simp only[nvO]at hW
 rw[hka,hkl]at d2
 clear hka hkl
 have HC:=hide (either_any hM x n.kc m ts vs hlen hmx (fun j hj W2 h2=>hK j hj W2 (hT.trans h2)) (fun j hj=>(hf j hj).step hT) hs)
 clear h hp hn hs hT hM hk hK hf hmx hlen
 go_enter func42,ntmps42
 go_upto_region 1 with fail
 rw[← hW]
 clear hW
 go_wp2_with fail
 refine HC.out.mono ?_
 rintro e w1 ⟨rfl,h1,st1⟩
 have HH:=hide h1
 have HT1:=hide (HT.out.trans st1)
 clear h1 st1 HC
 go_wp2
 go_end0
 exact⟨rfl,HH.out,HT1.out⟩
theorem arm11(h:MB w mb g s)(n:NV)(hk:n.kind=11)(v:NV)(x:Addr)(hka:n.ka=some x)(hkl:n.kl=1)(hK:∀W,Step mb w W→NCells W x v)(f:MS→MS)(hu:Up f)(hf:DoesF mb g w 42 (nodeA mb v) f)(hs:((f (s.newC.add { dn:=7,to:=s.cnt })).add { dn:=4,to:=n.num,other:=s.cnt }).fits):Calls prog 42 (nodeA mb n) w fun e w'=>MkE mb g ((f (s.newC.add { dn:=7,to:=s.cnt })).add { dn:=4,to:=n.num,other:=s.cnt }) w e w':=by
 have hlt:=h.lt
 obtain⟨W,hW,hM,hT,hp,hn⟩:=two_box h n
 have HT:=hide hT
 have p0:W.cell? ⟨w.heap.size,0,none⟩=some (.pointer (some ⟨mb,0,none⟩)):=by simp[World.cell?,hp]
 obtain⟨d0,d1,d2,d3,d4,d5,d6,d7⟩:=nv_cells hn
 simp only[Nat.zero_add]at d0 d1 d2 d3 d4 d5 d6 d7
 rw[hk]at d0
 simp only[nvO]at hW
 have HC:=hide (group_any hM n v x hka hkl (fun W2 h2=>hK W2 (hT.trans h2)) f hu (hf.step hT) hs)
 simp only[nvV,hk]at HC
 clear h hp hn hs hT hM hk hka hkl hK hu hf
 go_enter func42,ntmps42
 go_upto_region 1 with fail
 rw[← hW]
 clear hW
 go_wp2_with fail
 refine HC.out.mono ?_
 rintro e w1 ⟨rfl,h1,st1⟩
 have HH:=hide h1
 have HT1:=hide (HT.out.trans st1)
 clear h1 st1 HC
 go_wp2
 go_end0
 exact⟨rfl,HH.out,HT1.out⟩
theorem arm12(h:MB w mb g s)(n:NV)(hk:n.kind=12)(v:NV)(x:Addr)(hka:n.ka=some x)(hkl:n.kl=1)(hK:∀W,Step mb w W→NCells W x v)(f:MS→MS)(hu:Up f)(hf:DoesF mb g w 42 (nodeA mb v) f)(F:FT)(hF:∀W,Step mb w W→Calls prog 64 #[nvV v] W fun e w'=>e=.returned (ftV F)∧Below W.heap.size W w')(hl:0≤n.least)(hm:n.most= -1∨n.least≤n.most)(hs:(repM n.least n.most n.way F.least f s).fits):Calls prog 42 (nodeA mb n) w fun e w'=>MkE mb g (repM n.least n.most n.way F.least f s) w e w':=by
 have hlt:=h.lt
 obtain⟨W,hW,hM,hT,hp,hn⟩:=two_box h n
 have HT:=hide hT
 have p0:W.cell? ⟨w.heap.size,0,none⟩=some (.pointer (some ⟨mb,0,none⟩)):=by simp[World.cell?,hp]
 obtain⟨d0,d1,d2,d3,d4,d5,d6,d7⟩:=nv_cells hn
 simp only[Nat.zero_add]at d0 d1 d2 d3 d4 d5 d6 d7
 rw[hk]at d0
 simp only[nvO]at hW
 have HC:=hide (repeat_any hM n v x F hka hkl (fun W2 h2=>hK W2 (hT.trans h2)) (fun W2 h2=>hF W2 (hT.trans h2)) f hu (hf.step hT) hl hm hs)
 simp only[nvV,hk]at HC
 clear h hp hn hs hT hM hk hka hkl hK hu hf hF hl hm
 go_enter func42,ntmps42
 go_upto_region 1 with fail
 rw[← hW]
 clear hW
 go_wp2_with fail
 refine HC.out.mono ?_
 rintro e w1 ⟨rfl,h1,st1⟩
 have HH:=hide h1
 have HT1:=hide (HT.out.trans st1)
 clear h1 st1 HC
 go_wp2
 go_end0
 exact⟨rfl,HH.out,HT1.out⟩
theorem arm13(h:MB w mb g s)(n:NV)(hk:n.kind=13)(v:NV)(x:Addr)(hka:n.ka=some x)(hkl:n.kl=1)(hK:∀W,Step mb w W→NCells W x v)(f:MS→MS)(hu:Up f)(hf:DoesF mb g w 42 (nodeA mb v) f)(hs:(firstM false f s).fits):Calls prog 42 (nodeA mb n) w fun e w'=>MkE mb g (firstM false f s) w e w':=by
 have hlt:=h.lt
 obtain⟨W,hW,hM,hT,hp,hn⟩:=two_box h n
 have HT:=hide hT
 have p0:W.cell? ⟨w.heap.size,0,none⟩=some (.pointer (some ⟨mb,0,none⟩)):=by simp[World.cell?,hp]
 obtain⟨d0,d1,d2,d3,d4,d5,d6,d7⟩:=nv_cells hn
 simp only[Nat.zero_add]at d0 d1 d2 d3 d4 d5 d6 d7
 rw[hk]at d0
 simp only[nvO]at hW
 have HC:=hide (first_any hM false 70 #[.pointer (some ⟨w.heap.size,0,none⟩),.pointer (some ⟨w.heap.size+1,0,none⟩)] enters1 f hu (clo1 n v x _ _ hlt (by omega) hp hn hka hkl (fun W2 h2=>hK W2 (hT.trans h2)) f (hf.step hT)) hs)
 clear h hp hn hs hT hM hk hka hkl hK hu hf
 go_enter func42,ntmps42
 go_upto_region 1 with fail
 rw[← hW]
 clear hW
 go_wp2_with fail
 refine HC.out.mono ?_
 rintro e w1 ⟨rfl,h1,st1⟩
 have HH:=hide h1
 have HT1:=hide (HT.out.trans st1)
 clear h1 st1 HC
 go_wp2
 go_end0
 exact⟨rfl,HH.out,HT1.out⟩
theorem arm14(h:MB w mb g s)(n:NV)(hk:n.kind=14)(v:NV)(x:Addr)(hka:n.ka=some x)(hkl:n.kl=1)(hK:∀W,Step mb w W→NCells W x v)(f:MS→MS)(hu:Up f)(hf:DoesF mb g w 42 (nodeA mb v) f)(hs:(firstM true f s).fits):Calls prog 42 (nodeA mb n) w fun e w'=>MkE mb g (firstM true f s) w e w':=by
 have hlt:=h.lt
 obtain⟨W,hW,hM,hT,hp,hn⟩:=two_box h n
 have HT:=hide hT
 have p0:W.cell? ⟨w.heap.size,0,none⟩=some (.pointer (some ⟨mb,0,none⟩)):=by simp[World.cell?,hp]
 obtain⟨d0,d1,d2,d3,d4,d5,d6,d7⟩:=nv_cells hn
 simp only[Nat.zero_add]at d0 d1 d2 d3 d4 d5 d6 d7
 rw[hk]at d0
 simp only[nvO]at hW
 have HC:=hide (first_any hM true 71 #[.pointer (some ⟨w.heap.size,0,none⟩),.pointer (some ⟨w.heap.size+1,0,none⟩)] enters2 f hu (clo2 n v x _ _ hlt (by omega) hp hn hka hkl (fun W2 h2=>hK W2 (hT.trans h2)) f (hf.step hT)) hs)
 clear h hp hn hs hT hM hk hka hkl hK hu hf
 go_enter func42,ntmps42
 go_upto_region 1 with fail
 rw[← hW]
 clear hW
 go_wp2_with fail
 refine HC.out.mono ?_
 rintro e w1 ⟨rfl,h1,st1⟩
 have HH:=hide h1
 have HT1:=hide (HT.out.trans st1)
 clear h1 st1 HC
 go_wp2
 go_end0
 exact⟨rfl,HH.out,HT1.out⟩
theorem arm15(h:MB w mb g s)(n:NV)(hk:n.kind=15)(v:NV)(x:Addr)(hka:n.ka=some x)(hkl:n.kl=1)(hK:∀W,Step mb w W→NCells W x v)(f:MS→MS)(hu:Up f)(hf:DoesF mb g w 42 (nodeA mb v) f)(hs:(noneM f s).fits):Calls prog 42 (nodeA mb n) w fun e w'=>MkE mb g (noneM f s) w e w':=by
 have hlt:=h.lt
 obtain⟨W,hW,hM,hT,hp,hn⟩:=two_box h n
 have HT:=hide hT
 have p0:W.cell? ⟨w.heap.size,0,none⟩=some (.pointer (some ⟨mb,0,none⟩)):=by simp[World.cell?,hp]
 obtain⟨d0,d1,d2,d3,d4,d5,d6,d7⟩:=nv_cells hn
 simp only[Nat.zero_add]at d0 d1 d2 d3 d4 d5 d6 d7
 rw[hk]at d0
 simp only[nvO]at hW
 have HC:=hide (none_any hM 73 #[.pointer (some ⟨w.heap.size,0,none⟩),.pointer (some ⟨w.heap.size+1,0,none⟩)] enters3 f hu (clo3 n v x _ _ hlt (by omega) hp hn hka hkl (fun W2 h2=>hK W2 (hT.trans h2)) f (hf.step hT)) hs)
 clear h hp hn hs hT hM hk hka hkl hK hu hf
 go_enter func42,ntmps42
 go_upto_region 1 with fail
 rw[← hW]
 clear hW
 go_wp2_with fail
 refine HC.out.mono ?_
 rintro e w1 ⟨rfl,h1,st1⟩
 have HH:=hide h1
 have HT1:=hide (HT.out.trans st1)
 clear h1 st1 HC
 go_wp2
 go_end0
 exact⟨rfl,HH.out,HT1.out⟩
theorem arm16(h:MB w mb g s)(n:NV)(hk:n.kind=16)(v:NV)(x:Addr)(hka:n.ka=some x)(hkl:n.kl=1)(hK:∀W,Step mb w W→NCells W x v)(f:MS→MS)(hu:Up f)(hf:DoesF mb g w 42 (nodeA mb v) f)(F:FT)(hF:∀W,Step mb w W→Calls prog 64 #[nvV v] W fun e w'=>e=.returned (ftV F)∧Below W.heap.size W w')(hFm:F.most≤1000000∧ -1≤F.most)(hs:(firstM false (behindM F.least F.most f) s).fits):Calls prog 42 (nodeA mb n) w fun e w'=>MkE mb g (firstM false (behindM F.least F.most f) s) w e w':=by
 have hlt:=h.lt
 obtain⟨W,hW,hM,hT,hp,hn⟩:=two_box h n
 have HT:=hide hT
 have p0:W.cell? ⟨w.heap.size,0,none⟩=some (.pointer (some ⟨mb,0,none⟩)):=by simp[World.cell?,hp]
 obtain⟨d0,d1,d2,d3,d4,d5,d6,d7⟩:=nv_cells hn
 simp only[Nat.zero_add]at d0 d1 d2 d3 d4 d5 d6 d7
 rw[hk]at d0
 simp only[nvO]at hW
 have HC:=hide (first_any hM false 74 #[.pointer (some ⟨w.heap.size,0,none⟩),.pointer (some ⟨w.heap.size+1,0,none⟩)] enters4 _ (behind_up _ _ hu) (clo4 n v x _ _ hlt (by omega) hp hn hka hkl (fun W2 h2=>hK W2 (hT.trans h2)) _ (fun W2 s2 h2 hM2 hf2=>behind_any hM2 v F f hu hFm (fun W3 h3=>hF W3 (hT.trans (h2.trans h3))) (hf.step (hT.trans h2)) hf2)) hs)
 clear h hp hn hs hT hM hk hka hkl hK hu hf hF hFm
 go_enter func42,ntmps42
 go_upto_region 1 with fail
 rw[← hW]
 clear hW
 go_wp2_with fail
 refine HC.out.mono ?_
 rintro e w1 ⟨rfl,h1,st1⟩
 have HH:=hide h1
 have HT1:=hide (HT.out.trans st1)
 clear h1 st1 HC
 go_wp2
 go_end0
 exact⟨rfl,HH.out,HT1.out⟩
theorem arm17(h:MB w mb g s)(n:NV)(hk:n.kind=17)(v:NV)(x:Addr)(hka:n.ka=some x)(hkl:n.kl=1)(hK:∀W,Step mb w W→NCells W x v)(f:MS→MS)(hu:Up f)(hf:DoesF mb g w 42 (nodeA mb v) f)(F:FT)(hF:∀W,Step mb w W→Calls prog 64 #[nvV v] W fun e w'=>e=.returned (ftV F)∧Below W.heap.size W w')(hFm:F.most≤1000000∧ -1≤F.most)(hs:(noneM (behindM F.least F.most f) s).fits):Calls prog 42 (nodeA mb n) w fun e w'=>MkE mb g (noneM (behindM F.least F.most f) s) w e w':=by
 have hlt:=h.lt
 obtain⟨W,hW,hM,hT,hp,hn⟩:=two_box h n
 have HT:=hide hT
 have p0:W.cell? ⟨w.heap.size,0,none⟩=some (.pointer (some ⟨mb,0,none⟩)):=by simp[World.cell?,hp]
 obtain⟨d0,d1,d2,d3,d4,d5,d6,d7⟩:=nv_cells hn
 simp only[Nat.zero_add]at d0 d1 d2 d3 d4 d5 d6 d7
 rw[hk]at d0
 simp only[nvO]at hW
 have HC:=hide (none_any hM 76 #[.pointer (some ⟨w.heap.size,0,none⟩),.pointer (some ⟨w.heap.size+1,0,none⟩)] enters5 _ (behind_up _ _ hu) (clo5 n v x _ _ hlt (by omega) hp hn hka hkl (fun W2 h2=>hK W2 (hT.trans h2)) _ (fun W2 s2 h2 hM2 hf2=>behind_any hM2 v F f hu hFm (fun W3 h3=>hF W3 (hT.trans (h2.trans h3))) (hf.step (hT.trans h2)) hf2)) hs)
 clear h hp hn hs hT hM hk hka hkl hK hu hf hF hFm
 go_enter func42,ntmps42
 go_upto_region 1 with fail
 rw[← hW]
 clear hW
 go_wp2_with fail
 refine HC.out.mono ?_
 rintro e w1 ⟨rfl,h1,st1⟩
 have HH:=hide h1
 have HT1:=hide (HT.out.trans st1)
 clear h1 st1 HC
 go_wp2
 go_end0
 exact⟨rfl,HH.out,HT1.out⟩
theorem arm18(h:MB w mb g s)(n:NV)(hk:n.kind=18)(hs:(s.add { dn:=6,to:=n.num,fold:=n.fold }).fits):Calls prog 42 (nodeA mb n) w fun e w'=>MkE mb g (s.add { dn:=6,to:=n.num,fold:=n.fold }) w e w':=by
 have hlt:=h.lt
 obtain⟨W,hW,hM,hT,hp,hn⟩:=two_box h n
 have HT:=hide hT
 have p0:W.cell? ⟨w.heap.size,0,none⟩=some (.pointer (some ⟨mb,0,none⟩)):=by simp[World.cell?,hp]
 obtain⟨d0,d1,d2,d3,d4,d5,d6,d7⟩:=nv_cells hn
 simp only[Nat.zero_add]at d0 d1 d2 d3 d4 d5 d6 d7
 rw[hk]at d0
 simp only[nvO]at hW
 have HC:=hide (add0 hM 6 n.num 0 0 0 n.fold false (by have:=((le_add s _).fits hs).1;omega))
 clear h hp hn hs hT hM hk 
 go_enter func42,ntmps42
 go_upto_region 1 with fail
 rw[← hW]
 clear hW
 go_wp2_with fail
 refine HC.out.mono ?_
 rintro e w1 ⟨rfl,h1,st1⟩
 have HH:=hide h1
 have HT1:=hide (HT.out.trans st1)
 clear h1 st1 HC
 go_wp2
 go_end0
 exact⟨rfl,HH.out,HT1.out⟩
theorem arm3(h:MB w mb g s)(n:NV)(hk:n.kind=3)(hs:(s.add { dn:=5,kind:=3 }).fits):Calls prog 42 (nodeA mb n) w fun e w'=>MkE mb g (s.add { dn:=5,kind:=3 }) w e w':=by
 have hlt:=h.lt
 obtain⟨W,hW,hM,hT,hp,hn⟩:=two_box h n
 have HT:=hide hT
 have p0:W.cell? ⟨w.heap.size,0,none⟩=some (.pointer (some ⟨mb,0,none⟩)):=by simp[World.cell?,hp]
 obtain⟨d0,d1,d2,d3,d4,d5,d6,d7⟩:=nv_cells hn
 simp only[Nat.zero_add]at d0 d1 d2 d3 d4 d5 d6 d7
 rw[hk]at d0
 simp only[nvO]at hW
 have HC:=hide (add0 hM 5 0 0 3 0 false false (by have:=((le_add s _).fits hs).1;omega))
 clear h hp hn hs hT hM hk 
 go_enter func42,ntmps42
 go_upto_region 1 with fail
 rw[← hW]
 clear hW
 go_wp2_with fail
 refine HC.out.mono ?_
 rintro e w1 ⟨rfl,h1,st1⟩
 have HH:=hide h1
 have HT1:=hide (HT.out.trans st1)
 clear h1 st1 HC
 go_wp2
 go_end0
 exact⟨rfl,HH.out,HT1.out⟩
theorem arm4(h:MB w mb g s)(n:NV)(hk:n.kind=4)(hs:(s.add { dn:=5,kind:=4 }).fits):Calls prog 42 (nodeA mb n) w fun e w'=>MkE mb g (s.add { dn:=5,kind:=4 }) w e w':=by
 have hlt:=h.lt
 obtain⟨W,hW,hM,hT,hp,hn⟩:=two_box h n
 have HT:=hide hT
 have p0:W.cell? ⟨w.heap.size,0,none⟩=some (.pointer (some ⟨mb,0,none⟩)):=by simp[World.cell?,hp]
 obtain⟨d0,d1,d2,d3,d4,d5,d6,d7⟩:=nv_cells hn
 simp only[Nat.zero_add]at d0 d1 d2 d3 d4 d5 d6 d7
 rw[hk]at d0
 simp only[nvO]at hW
 have HC:=hide (add0 hM 5 0 0 4 0 false false (by have:=((le_add s _).fits hs).1;omega))
 clear h hp hn hs hT hM hk 
 go_enter func42,ntmps42
 go_upto_region 1 with fail
 rw[← hW]
 clear hW
 go_wp2_with fail
 refine HC.out.mono ?_
 rintro e w1 ⟨rfl,h1,st1⟩
 have HH:=hide h1
 have HT1:=hide (HT.out.trans st1)
 clear h1 st1 HC
 go_wp2
 go_end0
 exact⟨rfl,HH.out,HT1.out⟩
theorem arm5(h:MB w mb g s)(n:NV)(hk:n.kind=5)(hs:(s.add { dn:=5,kind:=5 }).fits):Calls prog 42 (nodeA mb n) w fun e w'=>MkE mb g (s.add { dn:=5,kind:=5 }) w e w':=by
 have hlt:=h.lt
 obtain⟨W,hW,hM,hT,hp,hn⟩:=two_box h n
 have HT:=hide hT
 have p0:W.cell? ⟨w.heap.size,0,none⟩=some (.pointer (some ⟨mb,0,none⟩)):=by simp[World.cell?,hp]
 obtain⟨d0,d1,d2,d3,d4,d5,d6,d7⟩:=nv_cells hn
 simp only[Nat.zero_add]at d0 d1 d2 d3 d4 d5 d6 d7
 rw[hk]at d0
 simp only[nvO]at hW
 have HC:=hide (add0 hM 5 0 0 5 0 false false (by have:=((le_add s _).fits hs).1;omega))
 clear h hp hn hs hT hM hk 
 go_enter func42,ntmps42
 go_upto_region 1 with fail
 rw[← hW]
 clear hW
 go_wp2_with fail
 refine HC.out.mono ?_
 rintro e w1 ⟨rfl,h1,st1⟩
 have HH:=hide h1
 have HT1:=hide (HT.out.trans st1)
 clear h1 st1 HC
 go_wp2
 go_end0
 exact⟨rfl,HH.out,HT1.out⟩
theorem arm6(h:MB w mb g s)(n:NV)(hk:n.kind=6)(hs:(s.add { dn:=5,kind:=6 }).fits):Calls prog 42 (nodeA mb n) w fun e w'=>MkE mb g (s.add { dn:=5,kind:=6 }) w e w':=by
 have hlt:=h.lt
 obtain⟨W,hW,hM,hT,hp,hn⟩:=two_box h n
 have HT:=hide hT
 have p0:W.cell? ⟨w.heap.size,0,none⟩=some (.pointer (some ⟨mb,0,none⟩)):=by simp[World.cell?,hp]
 obtain⟨d0,d1,d2,d3,d4,d5,d6,d7⟩:=nv_cells hn
 simp only[Nat.zero_add]at d0 d1 d2 d3 d4 d5 d6 d7
 rw[hk]at d0
 simp only[nvO]at hW
 have HC:=hide (add0 hM 5 0 0 6 0 false false (by have:=((le_add s _).fits hs).1;omega))
 clear h hp hn hs hT hM hk 
 go_enter func42,ntmps42
 go_upto_region 1 with fail
 rw[← hW]
 clear hW
 go_wp2_with fail
 refine HC.out.mono ?_
 rintro e w1 ⟨rfl,h1,st1⟩
 have HH:=hide h1
 have HT1:=hide (HT.out.trans st1)
 clear h1 st1 HC
 go_wp2
 go_end0
 exact⟨rfl,HH.out,HT1.out⟩
theorem arm7(h:MB w mb g s)(n:NV)(hk:n.kind=7)(hs:(s.add { dn:=5,kind:=7 }).fits):Calls prog 42 (nodeA mb n) w fun e w'=>MkE mb g (s.add { dn:=5,kind:=7 }) w e w':=by
 have hlt:=h.lt
 obtain⟨W,hW,hM,hT,hp,hn⟩:=two_box h n
 have HT:=hide hT
 have p0:W.cell? ⟨w.heap.size,0,none⟩=some (.pointer (some ⟨mb,0,none⟩)):=by simp[World.cell?,hp]
 obtain⟨d0,d1,d2,d3,d4,d5,d6,d7⟩:=nv_cells hn
 simp only[Nat.zero_add]at d0 d1 d2 d3 d4 d5 d6 d7
 rw[hk]at d0
 simp only[nvO]at hW
 have HC:=hide (add0 hM 5 0 0 7 0 false false (by have:=((le_add s _).fits hs).1;omega))
 clear h hp hn hs hT hM hk 
 go_enter func42,ntmps42
 go_upto_region 1 with fail
 rw[← hW]
 clear hW
 go_wp2_with fail
 refine HC.out.mono ?_
 rintro e w1 ⟨rfl,h1,st1⟩
 have HH:=hide h1
 have HT1:=hide (HT.out.trans st1)
 clear h1 st1 HC
 go_wp2
 go_end0
 exact⟨rfl,HH.out,HT1.out⟩
theorem arm8(h:MB w mb g s)(n:NV)(hk:n.kind=8)(hs:(s.add { dn:=5,kind:=8 }).fits):Calls prog 42 (nodeA mb n) w fun e w'=>MkE mb g (s.add { dn:=5,kind:=8 }) w e w':=by
 have hlt:=h.lt
 obtain⟨W,hW,hM,hT,hp,hn⟩:=two_box h n
 have HT:=hide hT
 have p0:W.cell? ⟨w.heap.size,0,none⟩=some (.pointer (some ⟨mb,0,none⟩)):=by simp[World.cell?,hp]
 obtain⟨d0,d1,d2,d3,d4,d5,d6,d7⟩:=nv_cells hn
 simp only[Nat.zero_add]at d0 d1 d2 d3 d4 d5 d6 d7
 rw[hk]at d0
 simp only[nvO]at hW
 have HC:=hide (add0 hM 5 0 0 8 0 false false (by have:=((le_add s _).fits hs).1;omega))
 clear h hp hn hs hT hM hk 
 go_enter func42,ntmps42
 go_upto_region 1 with fail
 rw[← hW]
 clear hW
 go_wp2_with fail
 refine HC.out.mono ?_
 rintro e w1 ⟨rfl,h1,st1⟩
 have HH:=hide h1
 have HT1:=hide (HT.out.trans st1)
 clear h1 st1 HC
 go_wp2
 go_end0
 exact⟨rfl,HH.out,HT1.out⟩
variable {w w' : World} {mb : Nat} {g : Int} {s s' : MS}
theorem checkE_len{S:RL}(h:checkE S=0):S.length≤400:=by
 unfold checkE at h
 have hr:rightE S=0:=by
  by_cases hh:rightE S=0
  ·exact hh
  ·rw[if_neg hh]at h;exact absurd h hh
 unfold rightE at hr
 by_cases h4:400<S.length
 ·rw[if_pos h4]at hr;exact absurd hr (by decide)
 ·omega
theorem own_base{B B' e k n:Nat}{v:Value}{xs:List Value}(h:w.ownsRow B e k v n xs)(hb:B'≤B):w.ownsRow B' e k v n xs:=by
 refine⟨h.1,?_⟩
 rcases h.2 with h2|⟨b,cap,cur,rfl,h3,h4⟩
 ·exact .inl h2
 ·exact .inr ⟨b,cap,cur,rfl,Nat.le_trans hb h3,h4⟩
theorem arm2(h:MB w mb g s)(n:NV)(hk:n.kind=2)(S:RL)(hS:Reads w (.slice n.sa n.sl n.sc) S)(hl:S.length≤400)(hs:(s.add { dn:=1,set:=S }).fits):Calls prog 42 (nodeA mb n) w fun e w'=>MkE mb g (s.add { dn:=1,set:=S }) w e w':=by
 have hlt:=h.lt
 have hbw:Below w.heap.size w ((w.alloc (.cells #[.pointer (some ⟨mb,0,none⟩)] 103)).alloc (nvO n)):=two_below _ _ _
 obtain⟨W,hW,hM,hT,hp,hn⟩:=two_box h n
 rw[← hW]at hbw
 have HT:=hide hT
 have hWl:=hM.lt
 have HS:Hid (Step mb W W.drew):=Step.of_below (drew1 W) hWl
 have HP:=hide hp
 have HN:=hide hn
 have HC1:=hide (clone_any (.slice n.sa n.sl n.sc) S W.drew ((hS.below hbw).below (drew1 W)) (by omega))
 have HM0:=hide (hM.keep (drew1 W))
 have HB0:Hid (mb+1≤W.drew.heap.size):=hWl
 have HFS:Hid (s.ops.length≤20000):=by have:=((le_add s _).fits hs).1;show s.ops.length≤20000;omega
 obtain⟨d0,d1,d2,d3,d4,d5,d6,d7⟩:=nv_cells hn
 simp only[Nat.zero_add]at d0 d1 d2 d3 d4 d5 d6 d7
 rw[hk]at d0
 simp only[nvO]at hW
 obtain⟨pb,hpb⟩:=named w.heap.size
 have hpl:mb<pb:=by omega
 rw[← hpb]at HP HN d0 d1 d2 d3 d4 d5 d6 d7
 obtain⟨sl,hsl⟩:=named S.length
 have HSL:=hide hsl
 clear h hp hn hs hT hM hk hS hbw hl hsl
 go_enter func42,ntmps42
 go_upto_region 1 with fail
 rw[← hW, ←hpb]
 clear hW hpb
 go_upto_region 5 with fail
 refine wp_region_held (S:=fun w'=>Step mb W w') (by kernel_rfl) ?_
 change wpAnyH _ _ _ _ _ _ _ _ (World.drew _)
 refine takeH 0 (.pointer (some ⟨mb,0,none⟩)) rfl (fun _ _ _ h=>h) HS.out (fun w' hS=>?_) ?_
 ·(have y0:w'.cell? ⟨pb,0,none⟩=some (.pointer (some ⟨mb,0,none⟩)):=by simp[World.cell?,hS.blk hpl HP.out (by decide) (by decide)]);go_simp
 refine takeH 1 (.pointer (some ⟨pb+1,1,none⟩)) rfl (fun _ _ _ h=>h) HS.out (fun w' hS=>?_) ?_
 ·go_simp
 refine takeH 2 (.slice n.sa n.sl n.sc) rfl (fun _ _ _ h=>h) HS.out (fun w' hS=>?_) ?_
 ·(obtain⟨y0,y1,y2,y3,y4,y5,y6,y7⟩:=nv_cells (hS.blk (by omega) HN.out (by decide) (by decide));simp only[Nat.zero_add]at y0 y1 y2 y3 y4 y5 y6 y7;go_simp)
 refine wpAnyH_ready (rs:=[3]) (by kernel_rfl) (by simp) ?_
 refine AllReadyH.cons rfl (fun K hK=>?_) AllReadyH.nil
 go_simp
 refine HC1.out.mono ?_
 rintro e w1 ⟨v',rfl,ho,hb1⟩
 have st1:=Step.of_below hb1 HM0.out.lt
 have HS1:=hide (HS.out.trans st1)
 refine hK.out _ _ HS1.out (fun _=>?_)
 clear hK K
 obtain⟨ao,c,rfl⟩:=own_shape ho
 rw[← HSL.out]
 have HC2:=hide (add_any (HM0.out.keep hb1) ⟨1,ao,sl,c,0,0,0,0,false,false⟩ S (by show World.ownsRow _ _ _ _ _ _ _;rw[HSL.out];exact own_base ho HB0.out) HFS.out)
 clear ho hb1 st1 HC1 HM0
 refine takeH 4 (.agg #[.int .i64 1,.slice ao sl c,.int .i64 0,.int .i64 0,.int .i64 0,.int .i64 0,.bool false,.bool false]) rfl (fun _ _ _ h=>h) HS1.out (fun w' hS=>?_) ?_
 ·go_simp
 refine wpAnyH_ready (rs:=[5]) (by kernel_rfl) (by simp) ?_
 refine AllReadyH.cons rfl (fun K hK=>?_) AllReadyH.nil
 go_simp
 refine HC2.out.mono ?_
 rintro e w2 ⟨rfl,h2,st2⟩
 have HS2:=hide (HS1.out.trans st2)
 refine hK.out _ _ HS2.out (fun _=>?_)
 clear hK K
 refine wpAnyH_done (by kernel_rfl) ?_ _
 have HH:=hide h2
 have HT2:=hide (HT.out.trans HS2.out)
 clear h2 st2 HC2 HS1 HS2
 go_wp2
 go_end0
 exact⟨rfl,HH.out,HT2.out⟩
theorem mkL_next{ts:List Tr}{j:Nat}(hj:j<ts.length)(s:MS):mkL (ts.drop j) s=mkL (ts.drop (j+1)) (mkT ts[j] s):=by
 rw[List.drop_eq_getElem_cons hj,mkL]
theorem arm9(h:MB w mb g s)(n:NV)(hk:n.kind=9)(x:Addr)(ts:List Tr)(vs:Nat→NV)(hka:n.ka=some x)(hkl:n.kl=ts.length)(hmx:ts.length≤n.kc∧n.kc≤9223372036854775807)(hK:∀j,j<ts.length→∀W,Step mb w W→NCells W (x.add (j*8)) (vs j))(hf:∀j (hj:j<ts.length),DoesF mb g w 42 (nodeA mb (vs j)) (mkT ts[j]))(hs:(mkL ts s).fits):Calls prog 42 (nodeA mb n) w fun e w'=>MkE mb g (mkL ts s) w e w':=by
 have hlt:=h.lt
 obtain⟨W,hW,hM,hT,hp,hn⟩:=two_box h n
 have HT:=hide hT
 have HM:=hide hM
 have HK:=hide hK
 have HF:=hide hf
 have HFit:=hide hs
 obtain⟨d0,d1,d2,d3,d4,d5,d6,d7⟩:=nv_cells hn
 simp only[Nat.zero_add]at d0 d1 d2 d3 d4 d5 d6 d7
 rw[hk]at d0
 rw[hka,hkl]at d2
 simp only[nvO]at hW
 obtain⟨pb,hpb⟩:=named w.heap.size
 have hpl:mb<pb:=by omega
 have HP:=hide hp
 rw[← hpb]at HP d0 d1 d2 d3 d4 d5 d6 d7
 obtain⟨R,hR⟩:=named (mkL ts s)
 rw[← hR]at HFit ⊢
 have HR:=hide hR
 obtain⟨m,hm⟩:=named ts.length
 rw[← hm]at d2 hmx
 have HLen:=hide hm
 clear h hp hn hs hT hM hk hK hf hka hkl hR hm
 go_enter func42,ntmps42
 go_upto_region 1 with fail
 rw[← hW, ←hpb]
 clear hW hpb
 go_wp2
 go_loopw [28] (fun v wr=>∃(j:Nat) (sj:MS),j≤m∧v=.int .i64 (j:Int)∧MB wr mb g sj∧Step mb W wr∧R=mkL (ts.drop j) sj) (fun v _=>m - (intOf v).toNat)
 case atStart=>exact⟨0,s,Nat.zero_le _,rfl,HM.out,Step.refl _ _,by rw[List.drop_zero];exact HR.out⟩
 case round=>
  obtain⟨j,sj,hj,rfl,hMj,hTj,hRj⟩:=hrel
  obtain⟨w5,hw5⟩:=named wr
  subst hw5
  clear d0 d1 d2 d3 d4 d5 d6 d7
  by_cases hlt2:j<m
  ·have e1:(0:Int)≤(j:Int):=by omega
   have e2:(j:Int)<(m:Int):=by omega
   have hjt:j<ts.length:=by have:=HLen.out;omega
   have hjw:IntKind.i64.wrap ((j:Int)+1)=(j:Int)+1:=by rw[IntKind.wrap_i64];omega
   have HRn:Hid (R=mkL (ts.drop (j+1)) (mkT ts[j] sj)):=hRj.trans (mkL_next hjt sj)
   have HF1:Hid (mkT ts[j] sj).fits:=(mkL_up (ts.drop (j+1)) _).fits (by rw[← HRn.out];exact HFit.out)
   obtain⟨c0,c1,c2,c3,c4,c5,c6,c7⟩:=HK.out j hjt w5 (HT.out.trans hTj)
   obtain⟨W6,hW6⟩:=named (w5.alloc (nvO (vs j)))
   have hb6:Below w5.heap.size w5 W6:=by rw[hW6];exact allocB _ _
   have hx6:W6.heap[w5.heap.size]? =some (nvO (vs j)):=by rw[hW6];exact at_new _ _
   have hs6:=Step.of_below hb6 hMj.lt
   have HT6:=hide (hTj.trans hs6)
   have HC:=hide (HF.out j hjt W6 sj (HT.out.trans HT6.out) (hMj.keep hb6) HF1.out)
   have p6:W6.cell? ⟨pb,0,none⟩=some (.pointer (some ⟨mb,0,none⟩)):=by simp[World.cell?,HT6.out.blk hpl HP.out (by decide) (by decide)]
   obtain⟨nn,hnn⟩:=named (vs j)
   rw[← hnn]at c0 c1 c2 c3 c4 c5 c6 c7 HC hx6 hW6
   obtain⟨y0,y1,y2,y3,y4,y5,y6,y7⟩:=nv_cells hx6
   simp only[Nat.zero_add]at y0 y1 y2 y3 y4 y5 y6 y7
   obtain⟨nb,hnb⟩:=named w5.heap.size
   rw[← hnb]at y0 y1 y2 y3 y4 y5 y6 y7
   simp only[nvO]at hW6
   clear hMj hTj hRj hb6 hx6 hs6 hnn hlt2
   go_upto_region 10 with fail
   rw[← hW6, ←hnb]
   clear hW6 hnb c0 c1 c2 c3 c4 c5 c6 c7
   go_wp2_with fail
   refine HC.out.mono ?_
   rintro e w7 ⟨rfl,h7,st7⟩
   have HH:=hide h7
   have HT7:=hide (HT6.out.trans st7)
   clear h7 st7 HC y0 y1 y2 y3 y4 y5 y6 y7 p6
   go_wp2
   go_roundw
   case rel=>exact⟨j+1,_,by omega,by go_num,HH.out,HT7.out,HRn.out⟩
   case measure=>simp[intOf];omega
  ·have hjm:j=m:=by omega
   subst hjm
   have e2:¬(j:Int)<(j:Int):=by omega
   have HRn:Hid (R=sj):=by show _=_;rw[hRj,List.drop_eq_nil_of_le (by have:=HLen.out;omega),mkL]
   have HH:=hide hMj
   have HT7:=hide (HT.out.trans hTj)
   clear hMj hTj hRj hlt2 hj
   go_wp2
   go_end0
   rw[HRn.out]
   exact⟨rfl,HH.out,HT7.out⟩
variable {mb : Nat} {g : Int}
theorem add_zero''(x:Addr):x.add (0*8)=x:=by simp[Addr.add]
theorem node_does{w0:World}{n:NV}{t:Tr}(h:NodeC w0 n t):good t→w0.heap.size≤mb→∀w:World,Below w0.heap.size w0 w→DoesF mb g w 42 (nodeA mb n) (mkT t):=by
 induction h with
 |mk n set ks vs hs hk hkids ih=>
  intro hg hB w hw W s hst hM hfit
  have hgn:=good_node hg
  have hgk:∀j (hj:j<ks.length),good ks[j]:=good_kids hg
  have hkb:=hgn.2.1
  have hkk:1≤n.kind∧n.kind≤18:=hgn.1
  have hset:checkE set=0:=by
   obtain⟨a,b,hab⟩:=hg
   rw[chkT_kids]at hab
   cases hn:nodeS (.mk n.kind n.num n.least n.most n.way n.fold set ks) a with
   |error z=>rw[hn]at hab;cases hab
   |ok s1=>exact(nodeS_in hn).1
  have hbW:∀W2,Step mb W W2→Below w0.heap.size w0 W2:=fun W2 h2=>(hw.trans ((hst.trans h2).below.mono hB))
  have hf:∀j (hj:j<ks.length),DoesF mb g W 42 (nodeA mb (vs j)) (mkT ks[j]):=fun j hj=>ih j hj (hgk j hj) hB W (hbW W (Step.refl _ _))
  -- one kid alone
  have one:11≤n.kind∧n.kind≤17→∃t x,ks=[t]∧n.ka=some x∧n.kl=1∧(∀W2,Step mb W W2→NCells W2 x (vs 0))∧DoesF mb g W 42 (nodeA mb (vs 0)) (mkT t)∧(∀W2,Step mb W W2→Calls prog 64 #[nvV (vs 0)] W2 fun e w'=>e=.returned (ftV (factT t))∧Below W2.heap.size W2 w')∧good t:=fun hr=>by
   unfold kidsB at hkb
   rw[if_neg (by show ¬n.kind=9;omega),if_neg (by show ¬n.kind=10;omega),if_pos (by show 11≤n.kind∧n.kind≤17;omega)]at hkb
   have hl:ks.length=1:=of_decide_eq_true hkb
   rcases hk with⟨_,_,_,h00⟩|⟨x,hx,hkl,hmx,hcl⟩
   ·omega
   ·match ks,hl,hkl,hcl,hf,hkids,hgk with
    |[t],_,hkl,hcl,hf,hkids,hgk=>
     refine⟨t,x,rfl,hx,hkl,fun W2 h2=>?_,hf 0 (by simp),fun W2 h2=>facts_any (hkids 0 (by simp)) (hgk 0 (by simp)) W2 (hbW W2 h2),hgk 0 (by simp)⟩
     have:=(hcl 0 (by simp)).below (hbW W2 h2)
     rwa[add_zero'']at this
  have hmk:∀{R},mkT (.mk n.kind n.num n.least n.most n.way n.fold set ks) s=R→R.fits:=fun e=>by rw[← e];exact hfit
  by_cases e1:n.kind=1
  ·have hE:mkT (.mk n.kind n.num n.least n.most n.way n.fold set ks) s=s:=by rw[mkT,if_pos e1]
   rw[hE];exact arm1 hM n e1
  by_cases e2:n.kind=2
  ·have hE:mkT (.mk n.kind n.num n.least n.most n.way n.fold set ks) s=s.add { dn:=1,set:=set }:=by rw[mkT,if_neg e1,if_pos e2]
   rw[hE];exact arm2 hM n e2 set (hs.below (hbW W (Step.refl _ _))) (checkE_len hset) (hmk hE)
  by_cases e9:n.kind=9
  ·have hE:mkT (.mk n.kind n.num n.least n.most n.way n.fold set ks) s=mkL ks s:=by rw[mkT,if_neg e1,if_neg e2,if_pos e9]
   rw[hE]
   unfold kidsB at hkb
   rw[if_pos (by show n.kind=9;omega)]at hkb
   simp only[Bool.and_eq_true,decide_eq_true_eq]at hkb
   have hl2:2≤ks.length:=hkb.1.1
   rcases hk with⟨_,_,_,h00⟩|⟨x,hx,hkl,hmx,hcl⟩
   ·omega
   ·exact arm9 hM n e9 x ks vs hx hkl hmx (fun j hj W2 h2=>(hcl j hj).below (hbW W2 h2)) hf (hmk hE)
  by_cases e10:n.kind=10
  ·have hE:mkT (.mk n.kind n.num n.least n.most n.way n.fold set ks) s=mkE s.lab.length ks s.newL:=by rw[mkT,if_neg e1,if_neg e2,if_neg e9,if_pos e10]
   rw[hE]
   unfold kidsB at hkb
   rw[if_neg (by show ¬n.kind=9;omega),if_pos (by show n.kind=10;omega)]at hkb
   simp only[Bool.and_eq_true,decide_eq_true_eq]at hkb
   have hl2:2≤ks.length:=hkb.1
   rcases hk with⟨_,_,_,h00⟩|⟨x,hx,hkl,hmx,hcl⟩
   ·omega
   ·exact arm10 hM n e10 x (ks.length - 1) ks vs hx (by omega) (by omega) (by omega) (fun j hj W2 h2=>(hcl j hj).below (hbW W2 h2)) hf (hmk hE)
  by_cases e11:n.kind=11
  ·obtain ⟨t,x,rfl,hx,hkl,hK,hd,hF,hgt⟩:=one (by omega)
   have hE:mkT (.mk n.kind n.num n.least n.most n.way n.fold set [t]) s=((mkT t) (s.newC.add { dn:=7,to:=s.cnt })).add { dn:=4,to:=n.num,other:=s.cnt }:=by rw[mkT,if_neg e1,if_neg e2,if_neg e9,if_neg e10,if_pos e11,mkH]
   rw[hE];exact arm11 hM n e11 (vs 0) x hx hkl hK (mkT t) (mkT_up t) hd (hmk hE)
  by_cases e12:n.kind=12
  ·obtain ⟨t,x,rfl,hx,hkl,hK,hd,hF,hgt⟩:=one (by omega)
   have hH:mkH [t]=mkT t:=by funext s;rw[mkH]
   have hE:mkT (.mk n.kind n.num n.least n.most n.way n.fold set [t]) s=repM n.least n.most n.way (factT t).least (mkT t) s:=by rw[mkT,if_neg e1,if_neg e2,if_neg e9,if_neg e10,if_neg e11,if_pos e12,hH,head0_eq]
   have hr:=repE_in (hgn.2.2 e12)
   have hr:(0≤n.least∧n.least≤100)∧(n.most= -1∨n.least≤n.most∧n.most≤100):=hr
   rw[hE];exact arm12 hM n e12 (vs 0) x hx hkl hK (mkT t) (mkT_up t) hd (factT t) hF (by omega) (by omega) (hmk hE)
  by_cases e13:n.kind=13
  ·obtain ⟨t,x,rfl,hx,hkl,hK,hd,hF,hgt⟩:=one (by omega)
   have hH:mkH [t]=mkT t:=by funext s;rw[mkH]
   have hE:mkT (.mk n.kind n.num n.least n.most n.way n.fold set [t]) s=firstM false (mkT t) s:=by rw[mkT,if_neg e1,if_neg e2,if_neg e9,if_neg e10,if_neg e11,if_neg e12,if_pos e13,hH]
   rw[hE];exact arm13 hM n e13 (vs 0) x hx hkl hK (mkT t) (mkT_up t) hd (hmk hE)
  by_cases e14:n.kind=14
  ·obtain ⟨t,x,rfl,hx,hkl,hK,hd,hF,hgt⟩:=one (by omega)
   have hH:mkH [t]=mkT t:=by funext s;rw[mkH]
   have hE:mkT (.mk n.kind n.num n.least n.most n.way n.fold set [t]) s=firstM true (mkT t) s:=by rw[mkT,if_neg e1,if_neg e2,if_neg e9,if_neg e10,if_neg e11,if_neg e12,if_neg e13,if_pos e14,hH]
   rw[hE];exact arm14 hM n e14 (vs 0) x hx hkl hK (mkT t) (mkT_up t) hd (hmk hE)
  by_cases e15:n.kind=15
  ·obtain ⟨t,x,rfl,hx,hkl,hK,hd,hF,hgt⟩:=one (by omega)
   have hH:mkH [t]=mkT t:=by funext s;rw[mkH]
   have hE:mkT (.mk n.kind n.num n.least n.most n.way n.fold set [t]) s=noneM (mkT t) s:=by rw[mkT,if_neg e1,if_neg e2,if_neg e9,if_neg e10,if_neg e11,if_neg e12,if_neg e13,if_neg e14,if_pos e15,hH]
   rw[hE];exact arm15 hM n e15 (vs 0) x hx hkl hK (mkT t) (mkT_up t) hd (hmk hE)
  by_cases e16:n.kind=16
  ·obtain ⟨t,x,rfl,hx,hkl,hK,hd,hF,hgt⟩:=one (by omega)
   have hH:mkH [t]=mkT t:=by funext s;rw[mkH]
   have ho:=factT_ok t hgt
   have hE:mkT (.mk n.kind n.num n.least n.most n.way n.fold set [t]) s=firstM false (behindM (factT t).least (factT t).most (mkT t)) s:=by rw[mkT,if_neg e1,if_neg e2,if_neg e9,if_neg e10,if_neg e11,if_neg e12,if_neg e13,if_neg e14,if_neg e15,if_pos e16,hH,head0_eq]
   rw[hE];exact arm16 hM n e16 (vs 0) x hx hkl hK (mkT t) (mkT_up t) hd (factT t) hF ⟨ho.2.2.2,ho.2.2.1⟩ (hmk hE)
  by_cases e17:n.kind=17
  ·obtain ⟨t,x,rfl,hx,hkl,hK,hd,hF,hgt⟩:=one (by omega)
   have hH:mkH [t]=mkT t:=by funext s;rw[mkH]
   have ho:=factT_ok t hgt
   have hE:mkT (.mk n.kind n.num n.least n.most n.way n.fold set [t]) s=noneM (behindM (factT t).least (factT t).most (mkT t)) s:=by rw[mkT,if_neg e1,if_neg e2,if_neg e9,if_neg e10,if_neg e11,if_neg e12,if_neg e13,if_neg e14,if_neg e15,if_neg e16,if_pos e17,hH,head0_eq]
   rw[hE];exact arm17 hM n e17 (vs 0) x hx hkl hK (mkT t) (mkT_up t) hd (factT t) hF ⟨ho.2.2.2,ho.2.2.1⟩ (hmk hE)
  by_cases e18:n.kind=18
  ·have hE:mkT (.mk n.kind n.num n.least n.most n.way n.fold set ks) s=s.add { dn:=6,to:=n.num,fold:=n.fold }:=by rw[mkT,if_neg e1,if_neg e2,if_neg e9,if_neg e10,if_neg e11,if_neg e12,if_neg e13,if_neg e14,if_neg e15,if_neg e16,if_neg e17,if_pos e18]
   rw[hE];exact arm18 hM n e18 (hmk hE)
  have hE:mkT (.mk n.kind n.num n.least n.most n.way n.fold set ks) s=s.add { dn:=5,kind:=n.kind }:=by rw[mkT,if_neg e1,if_neg e2,if_neg e9,if_neg e10,if_neg e11,if_neg e12,if_neg e13,if_neg e14,if_neg e15,if_neg e16,if_neg e17,if_neg e18]
  have hfit2:=hmk hE
  rw[hE]
  rcases(show n.kind=3∨n.kind=4∨n.kind=5∨n.kind=6∨n.kind=7∨n.kind=8 by omega)with e|e|e|e|e|e
  ·rw[e]at hfit2 ⊢;exact arm3 hM n e hfit2
  ·rw[e]at hfit2 ⊢;exact arm4 hM n e hfit2
  ·rw[e]at hfit2 ⊢;exact arm5 hM n e hfit2
  ·rw[e]at hfit2 ⊢;exact arm6 hM n e hfit2
  ·rw[e]at hfit2 ⊢;exact arm7 hM n e hfit2
  ·rw[e]at hfit2 ⊢;exact arm8 hM n e hfit2
end Go.Proofs.YtfnndcbjklppeaaGreatDoor.Mk
