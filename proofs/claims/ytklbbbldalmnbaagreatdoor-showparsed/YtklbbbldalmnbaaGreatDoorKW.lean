import Derived.Test.YtklbbbldalmnbaaGreatDoorKM
import Derived.Test.YtklbbbldalmnbaaGreatDoorKR
import Derived.Test.YtklbbbldalmnbaaGreatDoorKL
import Derived.Test.YtklbbbldalmnbaaGreatDoorKT
import Derived.Test.YtklbbbldalmnbaaGreatDoorKV
set_option linter.unusedVariables false
set_option maxHeartbeats 2000000
open Go.Proofs.Tryz
namespace Go.Proofs.YtklbbbldalmnbaaGreatDoor.Br
open Go.RowKit
open TK (Mv bL cu)
def kq:Except Int (TK.Tok×Nat)->Except Int (Wd×Nat)
 | .error z=>.error z
 | .ok (t,k)=>if t.kind=1 then .ok (.pt t.num,k)else if t.kind=4 then .ok (.cls t.text t.neg,k)else .error 1
theorem GU{p:Prop}:@decide p (Classical.propDecidable p)=true↔p:=@decide_eq_true_iff p (Classical.propDecidable p)
noncomputable def bJ(f:PS):Bool:=@decide (∃S,bq f S/\400<S.length) (Classical.propDecidable _)
noncomputable def eL(f:PS):PS:=fun q=>@decide (∃A,bq f A/\mj A q=true) (Classical.propDecidable _)
noncomputable def par(d:Int)(fo:Bool):Ku where
 oN:=d==1
 aD:=fo
 nx:=fun l i=>kq (TK.aV 1 l i)
 cl:=fun s=>@ite _ (s∈names) (Classical.propDecidable _) (.ok (ins (bO s))) (.error 5)
 many:=bJ
 K3:=eL
theorem fu{f:PS}{S:RL}(h:bq f S):bJ f=decide (400<S.length):=by
 unfold bJ
 rw[Bool.eq_iff_iff,GU,decide_eq_true_iff]
 constructor
 ·rintro⟨T,hT,hl⟩;rw[oB h hT];exact hl
 ·intro hl;exact⟨S,h,hl⟩
theorem zv{f:PS}{S:RL}(h:bq f S)(q:Int):eL f q=mj S q:=by
 unfold eL
 rw[Bool.eq_iff_iff,GU]
 constructor
 ·rintro⟨T,hT,hl⟩;rw[oB h hT];exact hl
 ·intro hl;exact⟨S,h,hl⟩
theorem zI{f g:PS}(h:∀q,0<=q->q<=1114111->f q=g q):bJ f=bJ g:=by
 unfold bJ
 rw[Bool.eq_iff_iff,GU,GU]
 exact⟨fun ⟨S,a,b⟩=>⟨S,fD a h,b⟩,fun ⟨S,a,b⟩=>⟨S,fD a fun q h0 h1=>(h q h0 h1).symm,b⟩⟩
theorem fx{f:PS}{S:RL}(h:bq f S){q:Int}(h0:0<=q)(h1:q<=1114111):ins S q=f q:=by rw[h.2 q];simp[h0,h1]
theorem jw{base:Int}(hb:base=10\/base=16):∀(k:Nat) (l:List Int) (n:Int) (c:Nat),0<=n->0<=(TK.eF base k l n c).1/\(TK.eF base k l n c).1<(n+1)*16 ^ k
 |0,l,n,c,h=>by simp only[TK.eF];omega
 |k+1,[],n,c,h=>by
  simp only[TK.eF]
  have:(0:Int)<16 ^ (k+1):=Int.pow_pos (by omega)
  refine⟨h,?_⟩
  have h2:(n+1)*1<=(n+1)*16 ^ (k+1):=Int.mul_le_mul_of_nonneg_left (by omega) (by omega)
  omega
 |k+1,p::t,n,c,h=>by
  unfold TK.eF
  have hd:=TK.nr p
  split
  ·rename_i hlt
   have h0:0<=n*base+TK.dM p:=by rcases hb with rfl|rfl<;>omega
   obtain⟨a,b⟩:=jw hb k t (n*base+TK.dM p) (c+1) h0
   refine⟨a,?_⟩
   have e1:n*base+TK.dM p+1<=(n+1)*16:=by rcases hb with rfl|rfl<;>omega
   have hp:(0:Int)<=16 ^ k:=Int.le_of_lt (Int.pow_pos (by omega))
   have e2:=Int.mul_le_mul_of_nonneg_right e1 hp
   have e3:(n+1)*16*16 ^ k=(n+1)*16 ^ (k+1):=by rw[Int.pow_succ,Int.mul_assoc,Int.mul_comm 16]
   omega
  ·have :(0:Int)<16 ^ (k+1):=Int.pow_pos (by omega)
   refine⟨h,?_⟩
   have h2:(n+1)*1<=(n+1)*16 ^ (k+1):=Int.mul_le_mul_of_nonneg_left (by omega) (by omega)
   simp only
   omega
theorem uh(base:Int)(ar:Nat)(l:List Int)(i:Nat)(hb:base=10\/base=16):0<=(TK.cZ base ar l i).1/\(TK.cZ base ar l i).1<16 ^ ar:=by
 have:=jw hb ar (l.drop i) 0 0 (by omega)
 simpa[TK.cZ]using this
theorem ly{l:List Int}{i:Nat}{t:TK.Tok}{k:Nat}(hl:∀p∈l,0<=p/\p<=1114111)(h92:ba l i [92]=true)(h:TK.aV 1 l i=.ok (t,k))(hk:t.kind=1):0<=t.num/\t.num<=1114111:=by
 rw[oA,TK.nW]at h92
 have h92:l[i]? =some 92:=by simpa using h92
 unfold TK.aV at h
 rw[h92]at h
 simp only[TK.kI,if_true]at h
 unfold TK.jx at h
 cases hp:l[i+1]? with
 |none=>rw[hp]at h;cases h
 |some p=>
  rw[hp]at h
  have hpm:=hl p (List.mem_of_getElem? hp)
  simp only[if_true]at h
  unfold TK.dj at h
  split at h
  ·simp only[Except.ok.injEq,Prod.mk.injEq]at h
   rw[<- h.1]at hk
   simp[TK.ej]at hk
  ·split at h
   ·simp only[Except.ok.injEq,Prod.mk.injEq]at h;rw[<- h.1]at hk;simp[TK.bz]at hk
   split at h
   ·simp only[Except.ok.injEq,Prod.mk.injEq]at h;rw[<- h.1]at hk;simp[TK.bz]at hk
   split at h
   ·simp only[Except.ok.injEq,Prod.mk.injEq]at h;rw[<- h.1]at hk;simp[TK.bz]at hk
   split at h
   ·simp only[Except.ok.injEq,Prod.mk.injEq]at h;rw[<- h.1]at hk;simp[TK.bz]at hk
   split at h
   ·-- hex
    unfold TK.fL at h
    simp only at h
    split at h
    ·split at h
     ·cases h
     ·simp only[Except.ok.injEq,Prod.mk.injEq]at h
      rw[<- h.1]
      simp only[TK.aR]
      have hb:=uh 16 2 l (i+1+1) (Or.inr rfl)
      omega
    ·split at h
     ·cases h
     ·split at h
      ·cases h
      ·split at h
       ·cases h
       ·simp only[Except.ok.injEq,Prod.mk.injEq]at h
        rw[<- h.1]
        simp only[TK.aR]
        have hb:=uh 16 6 l (i+1+1+1) (Or.inr rfl)
        omega
   split at h
   ·unfold TK.lE at h
    simp only at h
    split at h
    ·cases h
    ·simp only[Except.ok.injEq,Prod.mk.injEq]at h
     rw[<- h.1]
     simp only[TK.aR]
     have hb:=uh 16 4 l (i+1+1) (Or.inr rfl)
     omega
   split at h
   ·-- again by a bracket
    unfold TK.ff at h
    simp only at h
    repeat' split at h
    all_goals first|cases h;done|(simp only[Except.ok.injEq,Prod.mk.injEq]at h;rw[<- h.1]at hk;simp[TK.aU]at hk)
   split at h
   ·unfold TK.jP at h
    simp only at h
    split at h<;>(simp only[Except.ok.injEq,Prod.mk.injEq]at h;rw[<- h.1]at hk;simp[TK.aU]at hk)
   ·split at h
    ·rename_i q hq
     simp only[Except.ok.injEq,Prod.mk.injEq]at h
     rw[<- h.1]
     simp only[TK.aR]
     unfold TK.iP at hq
     repeat' split at hq
     all_goals first|cases hq;done|(simp only[Except.ok.injEq]at hq;omega)
    ·cases h
end Go.Proofs.YtklbbbldalmnbaaGreatDoor.Br
namespace Go.Proofs.YtklbbbldalmnbaaGreatDoor.Br
open Go.RowKit
open TK (Mv bL cu bI)
variable {w w' : World} {b : Nat} {v : Value} {l : List Int} {i : Nat} {d : Int} {fo : Bool}
theorem np{A:RL}(h:Canon A):bp A=if 400<A.length then 2 else 0:=by
 by_cases hl:400<A.length
 ·rw [if_pos hl]
  have:dI A=2:=by unfold dI;rw[if_pos hl]
  rw[qA (by rw[this];decide),this]
 ·rw [if_neg hl]
  exact gi.2 ⟨by omega,h⟩
theorem gk{f:PS}{A:RL}(h:bq f A):bp A=if bJ f then 2 else 0:=by
 rw[np h.1,fu h]
 by_cases hl:400<A.length<;>simp[hl]
theorem BX{f g:PS}{A B:RL}(h:bq f A)(h':bq g B):vS A B=if bJ f||bJ g then 2 else 0:=by
 unfold vS
 rw[gk h,gk h']
 cases bJ f<;>cases bJ g<;>simp
theorem ql{g g':PS}{c err:Int}{O:RL}{m:Bool}(h:Made g c err O)(hg:∀q,0<=q->q<=1114111->g q=g' q)(hc:c=if m then 2 else 0):((m||bJ g')=true/\err=2)\/((m||bJ g')=false/\err=0/\bq g' O):=by
 rcases h with⟨h1,h2,h3⟩|⟨h1,S,hS,⟨h2,h3,h4⟩|⟨h2,h3,h4⟩⟩
 ·cases m
  ·rw[hc]at h1;exact absurd rfl h1
  ·exact .inl ⟨rfl,by rw[h2,hc];rfl⟩
 ·subst h4
  have hS':=fD hS hg
  cases m
  ·exact .inr ⟨by rw[fu hS'];simp;omega,h3,hS'⟩
  ·rw[hc]at h1;simp at h1
 ·have hS':=fD hS hg
  cases m
  ·exact .inl ⟨by rw[fu hS'];simp;omega,h3⟩
  ·exact .inl ⟨rfl,h3⟩
theorem mD{f:PS}{A O:RL}{err:Int}(hA:bq f A)(h:Made (fun q=>!ins A q) (bp A) err O):(lq (par d fo) f=.error (2,0)/\err=2)\/(lq (par d fo) f=.ok (fun q=>!f q)/\err=0/\bq (fun q=>!f q) O):=by
 rcases ql h (g':=fun q=>!f q) (fun q h0 h1=>by show(!ins A q)=(!f q);rw[fx hA h0 h1]) (gk hA)with⟨h1,h2⟩|⟨h1,h2,h3⟩
 ·exact .inl ⟨by unfold lq;exact if_pos h1,h2⟩
 ·exact .inr ⟨by unfold lq;exact if_neg (by rw[show ((par d fo).many f||(par d fo).many fun q=>!f q)=false from h1];simp),h2,h3⟩
theorem vO{f g:PS}{A B O:RL}{err:Int}(hA:bq f A)(hB:bq g B)(h:Made (fun q=>ins A q&&ins B q) (vS A B) err O):(kz (par d fo) f g=.error (2,0)/\err=2)\/(kz (par d fo) f g=.ok (fun q=>f q&&g q)/\err=0/\bq (fun q=>f q&&g q) O):=by
 rcases ql h (g':=fun q=>f q&&g q) (fun q h0 h1=>by show(ins A q&&ins B q)=(f q&&g q);rw[fx hA h0 h1,fx hB h0 h1]) (BX hA hB)with⟨h1,h2⟩|⟨h1,h2,h3⟩
 ·exact .inl ⟨by unfold kz;exact if_pos h1,h2⟩
 ·exact .inr ⟨by unfold kz;exact if_neg (by rw[show ((par d fo).many f||(par d fo).many g||(par d fo).many fun q=>f q&&g q)=false from h1];simp),h2,h3⟩
theorem vN{f:PS}{A O:RL}{err:Int}(hA:bq f A)(h:Made (mj A) (bp A) err O):(kY (par d fo) f=.error (2,0)/\err=2)\/(kY (par d fo) f=.ok (eL f)/\err=0/\bq (eL f) O):=by
 rcases ql h (g':=eL f) (fun q h0 h1=>(zv hA q).symm) (gk hA)with⟨h1,h2⟩|⟨h1,h2,h3⟩
 ·exact .inl ⟨by unfold kY;exact if_pos h1,h2⟩
 ·exact .inr ⟨by unfold kY;exact if_neg (by rw[show ((par d fo).many f||(par d fo).many ((par d fo).K3 f))=false from h1];simp),h2,h3⟩
def OR(w:World)(B:Nat)(sv:Value)(L:RL):Prop:=w.ownsRow B 76 2 sv L.length (aQ L)
theorem OR.reads{B:Nat}{sv:Value}{L:RL}(h:OR w B sv L):Reads w sv L:=iG h
theorem OR.shape{B:Nat}{sv:Value}{L:RL}(h:OR w B sv L):∃ao c,sv=.slice ao L.length c:=aG (show w.ownsRow B 76 2 sv L.length (aQ L)from h)
theorem OR.low{B B':Nat}{sv:Value}{L:RL}(h:OR w B' sv L)(hb:B<=B'):OR w B sv L:=fv (show w.ownsRow B' 76 2 sv L.length (aQ L)from h) hb
theorem OR.below{B:Nat}{sv:Value}{L:RL}(h:OR w B sv L)(hb:Below w.heap.size w w'):OR w' B sv L:=cI (show w.ownsRow B 76 2 sv L.length (aQ L)from h) hb
theorem OR.mv{B:Nat}{sv:Value}{L:RL}(h:OR w B sv L)(hm:Mv b w w')(hb:b<B):OR w' B sv L:=by
 obtain⟨h1,h2⟩:=(show w.ownsRow B 76 2 sv L.length (aQ L)from h)
 refine⟨h1,?_⟩
 rcases h2 with h|⟨g,cap,cur,rfl,hg,hh,hn,hm',hs,ht⟩
 ·exact .inl h
 ·exact .inr ⟨g,cap,cur,rfl,hg,by rw[hm.block g (lt_of_block hh) (by omega)];exact hh,hn,hm',hs,ht⟩
def La(R:Except BE PS)(w:World)(e:Ending)(w':World):Prop:=
 (∃f sv L,R=.ok f/\e=.returned sv/\OR w' w.heap.size sv L/\bq f L/\Below w.heap.size w w')\/(∃z a,R=.error (z,a)/\e=aF z a/\Below w.heap.size w w')
theorem ix(s:ByteArray)(no:Bool)(a:Int)(w:World):Calls prog 221 #[.string s,.bool no,.int .i64 a] w fun e w'=>La (fg (par d fo) s no a) w e w':=by
 by_cases hs:s∈names
 ·have HC:=I (qD s w hs)
  have hE:Hid (fg (par d fo) s no a=if no then lq (par d fo) (ins (bO s))else .ok (ins (bO s))):=by show _=_;unfold fg;simp only[par];rw[if_pos hs]
  obtain⟨f,hf⟩:=J (ins (bO s))
  rw[<- hf]at HC hE
  clear hs hf
  cases no with
  |false=>
   replace hE:Hid (fg (par d fo) s false a=.ok f):=by show _=_;rw[hE.o];rfl
   go_enter func221,ntmps221
   go_wp2_with fail
   refine HC.o.mono ?_
   rintro e w1 ⟨sv,L,rfl,ho,hset,hb⟩
   have hr:Hid (OR w1 w.heap.size sv L):=ho
   have HS:=I hset
   have HB:=I hb
   obtain⟨ao,c,rfl⟩:=aG ho
   clear ho hset hb
   go_wp2
   go_ret
   exact .inl ⟨f,_,L,hE.o,rfl,hr.o,HS.o,HB.o⟩
  |true=>
   replace hE:Hid (fg (par d fo) s true a=lq (par d fo) f):=by show _=_;rw[hE.o];rfl
   go_enter func221,ntmps221
   go_wp2_with fail
   refine HC.o.mono ?_
   rintro e w1 ⟨sv,L,rfl,ho,hset,hb⟩
   have hr:=iG ho
   have HN:=I (pL sv L w1 hr)
   have HS:=I hset
   have HB:=I hb
   obtain⟨ao,c,rfl⟩:=aG ho
   clear ho hset hb hr HC
   go_wp2_with fail
   refine HN.o.mono ?_
   rintro e w2 ⟨v2,err,O,rfl,hr2,hm2,hb2⟩
   have HB2:=I (HB.o.aq hb2)
   obtain⟨ao2,c2,hv2⟩:=aG hr2
   have HR2:Hid (OR w2 w.heap.size v2 O):=fv hr2 HB.o.size
   rw[hv2]at HR2 |-
   obtain⟨n2,hn2⟩:=J O.length
   rw[<- hn2]at HR2 |-
   rcases mD (d:=d) (fo:=fo) HS.o hm2 with⟨h1,h2⟩|⟨h1,h2,h3⟩
   ·have HE:=I (hE.o.trans h1)
    rw[h2]
    have HM:=I (lQ ao2 n2 c2 2 (by decide) w2)
    simp only[aF]at HM
    clear h1 h2 hm2 hr2 hv2 hb2 hE HN HR2 hn2
    go_wp2_with fail
    refine HM.o.mono ?_
    rintro e w3 ⟨rfl,rfl⟩
    go_wp2
    exact⟨rfl,.inr ⟨2,0,HE.o,rfl,HB2.o⟩⟩
   ·have HE:=I (hE.o.trans h1)
    rw[h2]
    have HM:=I (lR ao2 n2 c2 w2)
    have H3:=I h3
    clear h1 h2 hm2 hr2 hv2 hb2 hE HN h3 hn2
    go_wp2_with fail
    refine HM.o.mono ?_
    rintro e w3 ⟨rfl,rfl⟩
    go_wp2
    go_ret
    exact .inl ⟨_,_,O,HE.o,rfl,HR2.o,H3.o,HB2.o⟩
 ·have HC:=I (ze s w hs)
  have hE:Hid (fg (par d fo) s no a=.error (5,a)):=by show _=_;unfold fg;simp only[par];rw[if_neg hs]
  clear hs
  go_enter func221,ntmps221
  go_wp2_with fail
  refine HC.o.mono ?_
  rintro e w1 ⟨rfl,hb⟩
  have HB:=I hb
  have HM:=I (aS 5 a w1)
  simp only[aF]at HM
  clear hb HC
  go_wp2_with fail
  refine HM.o.mono ?_
  rintro e w3 ⟨rfl,rfl⟩
  go_wp2
  exact⟨rfl,.inr ⟨5,a,hE.o,rfl,HB.o⟩⟩
def ed(R:Except BE (PS×Nat))(b:Nat)(v:Value)(l:List Int)(i:Nat)(d:Int)(fo:Bool)(w:World)(e:Ending)(w':World):Prop:=
 (∃f k sv L,R=.ok (f,k)/\e=.returned sv/\OR w' w.heap.size sv L/\bq f L/\BB w' b v l k d fo/\i<k/\Mv b w w')\/(∃z a,R=.error (z,a)/\e=aF z a/\Mv b w w')
theorem Mv.then{w1:World}(h:Mv b w w1)(hb:Below w1.heap.size w1 w'):Mv b w w':=h.trans (Mv.U hb)
theorem fF{s:ByteArray}:(s.toList=[]->s.toList.isEmpty=true)/\(¬s.toList=[]->s.toList.isEmpty=false):=by
 constructor
 ·intro h;rw[h];rfl
 ·intro h
  cases hh:s.toList with
  |nil=>exact absurd hh h
  |cons _ _=>rfl
theorem iD{no:Bool}{j n:Nat}(hno:no=((par d fo).oN&&ba l (i+2) [94]))(hj:j=if no then i+3 else i+2)(hn:n=(aL l j).length)(h:aL l j=[]\/ba l (j+n) [58,93]=false):dP (par d fo) l i=.error (1,((j+n:Nat):Int)):=by
 subst hno hj hn
 unfold dP
 exact if_pos h
theorem qX{no:Bool}{j n:Nat}(hno:no=((par d fo).oN&&ba l (i+2) [94]))(hj:j=if no then i+3 else i+2)(hn:n=(aL l j).length)(h:¬aL l j=[])(h2:ba l (j+n) [58,93]=true):dP (par d fo) l i=match fg (par d fo) (bI (aL l j)) no i with| .error e=>.error e| .ok f=>.ok (f,j+n+2):=by
 subst hno hj hn
 unfold dP
 exact if_neg (by rw[h2];simpa using h)
end Go.Proofs.YtklbbbldalmnbaaGreatDoor.Br
