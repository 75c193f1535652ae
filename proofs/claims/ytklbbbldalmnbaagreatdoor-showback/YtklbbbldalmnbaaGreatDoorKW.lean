import Derived.Test.YtklbbbldalmnbaaGreatDoorKM
import Derived.Test.YtklbbbldalmnbaaGreatDoorKR
import Derived.Test.YtklbbbldalmnbaaGreatDoorKL
import Derived.Test.YtklbbbldalmnbaaGreatDoorKT
import Derived.Test.YtklbbbldalmnbaaGreatDoorKV
set_option linter.unusedVariables false
set_option maxHeartbeats 2000000
open Go.Proofs.Tryz
namespace Go.Proofs.YtklbbbldalmnbaaGreatDoor.Br
open Go.RowKit
open TK (Mv bJ bU)
def jU:Except Int (TK.Tok×Nat)->Except Int (Wd×Nat)
 | .error z=>.error z
 | .ok (t,k)=>if t.kind=1 then .ok (.pt t.num,k)else if t.kind=4 then .ok (.cls t.text t.neg,k)else .error 1
theorem FP{p:Prop}:@decide p (Classical.propDecidable p)=true↔p:=@decide_eq_true_iff p (Classical.propDecidable p)
noncomputable def bC(f:PS):Bool:=@decide (∃S,bg f S/\400<S.length) (Classical.propDecidable _)
noncomputable def ez(f:PS):PS:=fun q=>@decide (∃A,bg f A/\lL A q=true) (Classical.propDecidable _)
noncomputable def par(d:Int)(fo:Bool):JH where
 pG:=d==1
 aD:=fo
 nx:=fun l i=>jU (TK.aQ 1 l i)
 cl:=fun s=>@ite _ (s∈names) (Classical.propDecidable _) (.ok (ins (bI s))) (.error 5)
 many:=bC
 JS:=ez
theorem eW{f:PS}{S:RL}(h:bg f S):bC f=decide (400<S.length):=by
 unfold bC
 rw[Bool.eq_iff_iff,FP,decide_eq_true_iff]
 constructor
 ·rintro⟨T,hT,hl⟩;rw[nP h hT];exact hl
 ·intro hl;exact⟨S,h,hl⟩
theorem xU{f:PS}{S:RL}(h:bg f S)(q:Int):ez f q=lL S q:=by
 unfold ez
 rw[Bool.eq_iff_iff,FP]
 constructor
 ·rintro⟨T,hT,hl⟩;rw[nP h hT];exact hl
 ·intro hl;exact⟨S,h,hl⟩
theorem yK{f g:PS}(h:∀q,0<=q->q<=1114111->f q=g q):bC f=bC g:=by
 unfold bC
 rw[Bool.eq_iff_iff,FP,FP]
 exact⟨fun ⟨S,a,b⟩=>⟨S,ft a h,b⟩,fun ⟨S,a,b⟩=>⟨S,ft a fun q h0 h1=>(h q h0 h1).symm,b⟩⟩
theorem ff{f:PS}{S:RL}(h:bg f S){q:Int}(h0:0<=q)(h1:q<=1114111):ins S q=f q:=by rw[h.2 q];simp[h0,h1]
theorem jv{base:Int}(hb:base=10\/base=16):∀(k:Nat) (l:List Int) (n:Int) (c:Nat),0<=n->0<=(TK.ek base k l n c).1/\(TK.ek base k l n c).1<(n+1)*16 ^ k
 |0,l,n,c,h=>by simp only[TK.ek];omega
 |k+1,[],n,c,h=>by
  simp only[TK.ek]
  have:(0:Int)<16 ^ (k+1):=Int.pow_pos (by omega)
  refine⟨h,?_⟩
  have h2:(n+1)*1<=(n+1)*16 ^ (k+1):=Int.mul_le_mul_of_nonneg_left (by omega) (by omega)
  omega
 |k+1,p::t,n,c,h=>by
  unfold TK.ek
  have hd:=TK.nt p
  split
  ·rename_i hlt
   have h0:0<=n*base+TK.dz p:=by rcases hb with rfl|rfl<;>omega
   obtain⟨a,b⟩:=jv hb k t (n*base+TK.dz p) (c+1) h0
   refine⟨a,?_⟩
   have e1:n*base+TK.dz p+1<=(n+1)*16:=by rcases hb with rfl|rfl<;>omega
   have hp:(0:Int)<=16 ^ k:=Int.le_of_lt (Int.pow_pos (by omega))
   have e2:=Int.mul_le_mul_of_nonneg_right e1 hp
   have e3:(n+1)*16*16 ^ k=(n+1)*16 ^ (k+1):=by rw[Int.pow_succ,Int.mul_assoc,Int.mul_comm 16]
   omega
  ·have :(0:Int)<16 ^ (k+1):=Int.pow_pos (by omega)
   refine⟨h,?_⟩
   have h2:(n+1)*1<=(n+1)*16 ^ (k+1):=Int.mul_le_mul_of_nonneg_left (by omega) (by omega)
   simp only
   omega
theorem ur(base:Int)(an:Nat)(l:List Int)(i:Nat)(hb:base=10\/base=16):0<=(TK.cL base an l i).1/\(TK.cL base an l i).1<16 ^ an:=by
 have:=jv hb an (l.drop i) 0 0 (by omega)
 simpa[TK.cL]using this
theorem ky{l:List Int}{i:Nat}{t:TK.Tok}{k:Nat}(hl:∀p∈l,0<=p/\p<=1114111)(h92:aX l i [92]=true)(h:TK.aQ 1 l i=.ok (t,k))(hk:t.kind=1):0<=t.num/\t.num<=1114111:=by
 rw[nQ,TK.mC]at h92
 have h92:l[i]? =some 92:=by simpa using h92
 unfold TK.aQ at h
 rw[h92]at h
 simp only[TK.j9,if_true]at h
 unfold TK.jy at h
 cases hp:l[i+1]? with
 |none=>rw[hp]at h;cases h
 |some p=>
  rw[hp]at h
  have hpm:=hl p (List.mem_of_getElem? hp)
  simp only[if_true]at h
  unfold TK.cU at h
  split at h
  ·simp only[Except.ok.injEq,Prod.mk.injEq]at h
   rw[<- h.1]at hk
   simp[TK.dS]at hk
  ·split at h
   ·simp only[Except.ok.injEq,Prod.mk.injEq]at h;rw[<- h.1]at hk;simp[TK.bn]at hk
   split at h
   ·simp only[Except.ok.injEq,Prod.mk.injEq]at h;rw[<- h.1]at hk;simp[TK.bn]at hk
   split at h
   ·simp only[Except.ok.injEq,Prod.mk.injEq]at h;rw[<- h.1]at hk;simp[TK.bn]at hk
   split at h
   ·simp only[Except.ok.injEq,Prod.mk.injEq]at h;rw[<- h.1]at hk;simp[TK.bn]at hk
   split at h
   ·-- hex
    unfold TK.fC at h
    simp only at h
    split at h
    ·split at h
     ·cases h
     ·simp only[Except.ok.injEq,Prod.mk.injEq]at h
      rw[<- h.1]
      simp only[TK.aM]
      have hb:=ur 16 2 l (i+1+1) (Or.inr rfl)
      omega
    ·split at h
     ·cases h
     ·split at h
      ·cases h
      ·split at h
       ·cases h
       ·simp only[Except.ok.injEq,Prod.mk.injEq]at h
        rw[<- h.1]
        simp only[TK.aM]
        have hb:=ur 16 6 l (i+1+1+1) (Or.inr rfl)
        omega
   split at h
   ·unfold TK.kz at h
    simp only at h
    split at h
    ·cases h
    ·simp only[Except.ok.injEq,Prod.mk.injEq]at h
     rw[<- h.1]
     simp only[TK.aM]
     have hb:=ur 16 4 l (i+1+1) (Or.inr rfl)
     omega
   split at h
   ·-- again by a bracket
    unfold TK.eM at h
    simp only at h
    repeat' split at h
    all_goals first|cases h;done|(simp only[Except.ok.injEq,Prod.mk.injEq]at h;rw[<- h.1]at hk;simp[TK.aP]at hk)
   split at h
   ·unfold TK.jB at h
    simp only at h
    split at h<;>(simp only[Except.ok.injEq,Prod.mk.injEq]at h;rw[<- h.1]at hk;simp[TK.aP]at hk)
   ·split at h
    ·rename_i q hq
     simp only[Except.ok.injEq,Prod.mk.injEq]at h
     rw[<- h.1]
     simp only[TK.aM]
     unfold TK.iA at hq
     repeat' split at hq
     all_goals first|cases hq;done|(simp only[Except.ok.injEq]at hq;omega)
    ·cases h
end Go.Proofs.YtklbbbldalmnbaaGreatDoor.Br
namespace Go.Proofs.YtklbbbldalmnbaaGreatDoor.Br
open Go.RowKit
open TK (Mv bJ bU bE)
variable {w w' : World} {b : Nat} {v : Value} {l : List Int} {i : Nat} {d : Int} {fo : Bool}
theorem mH{A:RL}(h:Canon A):bj A=if 400<A.length then 2 else 0:=by
 by_cases hl:400<A.length
 ·rw [if_pos hl]
  have:du A=2:=by unfold du;rw[if_pos hl]
  rw[re (by rw[this];decide),this]
 ·rw [if_neg hl]
  exact fR.2 ⟨by omega,h⟩
theorem ij{f:PS}{A:RL}(h:bg f A):bj A=if bC f then 2 else 0:=by
 rw[mH h.1,eW h]
 by_cases hl:400<A.length<;>simp[hl]
theorem BM{f g:PS}{A B:RL}(h:bg f A)(h':bg g B):uX A B=if bC f||bC g then 2 else 0:=by
 unfold uX
 rw[ij h,ij h']
 cases bC f<;>cases bC g<;>simp
theorem pS{g g':PS}{c err:Int}{O:RL}{m:Bool}(h:Made g c err O)(hg:∀q,0<=q->q<=1114111->g q=g' q)(hc:c=if m then 2 else 0):((m||bC g')=true/\err=2)\/((m||bC g')=false/\err=0/\bg g' O):=by
 rcases h with⟨h1,h2,h3⟩|⟨h1,S,hS,⟨h2,h3,h4⟩|⟨h2,h3,h4⟩⟩
 ·cases m
  ·rw[hc]at h1;exact absurd rfl h1
  ·exact .inl ⟨rfl,by rw[h2,hc];rfl⟩
 ·subst h4
  have hS':=ft hS hg
  cases m
  ·exact .inr ⟨by rw[eW hS'];simp;omega,h3,hS'⟩
  ·rw[hc]at h1;simp at h1
 ·have hS':=ft hS hg
  cases m
  ·exact .inl ⟨by rw[eW hS'];simp;omega,h3⟩
  ·exact .inl ⟨rfl,h3⟩
theorem mh{f:PS}{A O:RL}{err:Int}(hA:bg f A)(h:Made (fun q=>!ins A q) (bj A) err O):(mr (par d fo) f=.error (2,0)/\err=2)\/(mr (par d fo) f=.ok (fun q=>!f q)/\err=0/\bg (fun q=>!f q) O):=by
 rcases pS h (g':=fun q=>!f q) (fun q h0 h1=>by show(!ins A q)=(!f q);rw[ff hA h0 h1]) (ij hA)with⟨h1,h2⟩|⟨h1,h2,h3⟩
 ·exact .inl ⟨by unfold mr;exact if_pos h1,h2⟩
 ·exact .inr ⟨by unfold mr;exact if_neg (by rw[show ((par d fo).many f||(par d fo).many fun q=>!f q)=false from h1];simp),h2,h3⟩
theorem wA{f g:PS}{A B O:RL}{err:Int}(hA:bg f A)(hB:bg g B)(h:Made (fun q=>ins A q&&ins B q) (uX A B) err O):(lO (par d fo) f g=.error (2,0)/\err=2)\/(lO (par d fo) f g=.ok (fun q=>f q&&g q)/\err=0/\bg (fun q=>f q&&g q) O):=by
 rcases pS h (g':=fun q=>f q&&g q) (fun q h0 h1=>by show(ins A q&&ins B q)=(f q&&g q);rw[ff hA h0 h1,ff hB h0 h1]) (BM hA hB)with⟨h1,h2⟩|⟨h1,h2,h3⟩
 ·exact .inl ⟨by unfold lO;exact if_pos h1,h2⟩
 ·exact .inr ⟨by unfold lO;exact if_neg (by rw[show ((par d fo).many f||(par d fo).many g||(par d fo).many fun q=>f q&&g q)=false from h1];simp),h2,h3⟩
theorem u7{f:PS}{A O:RL}{err:Int}(hA:bg f A)(h:Made (lL A) (bj A) err O):(mY (par d fo) f=.error (2,0)/\err=2)\/(mY (par d fo) f=.ok (ez f)/\err=0/\bg (ez f) O):=by
 rcases pS h (g':=ez f) (fun q h0 h1=>(xU hA q).symm) (ij hA)with⟨h1,h2⟩|⟨h1,h2,h3⟩
 ·exact .inl ⟨by unfold mY;exact if_pos h1,h2⟩
 ·exact .inr ⟨by unfold mY;exact if_neg (by rw[show ((par d fo).many f||(par d fo).many ((par d fo).JS f))=false from h1];simp),h2,h3⟩
def OR(w:World)(B:Nat)(sv:Value)(L:RL):Prop:=w.ownsRow B 76 2 sv L.length (aN L)
theorem OR.reads{B:Nat}{sv:Value}{L:RL}(h:OR w B sv L):Reads w sv L:=ig h
theorem OR.shape{B:Nat}{sv:Value}{L:RL}(h:OR w B sv L):∃ao c,sv=.slice ao L.length c:=ax (show w.ownsRow B 76 2 sv L.length (aN L)from h)
theorem OR.low{B B':Nat}{sv:Value}{L:RL}(h:OR w B' sv L)(hb:B<=B'):OR w B sv L:=eU (show w.ownsRow B' 76 2 sv L.length (aN L)from h) hb
theorem OR.below{B:Nat}{sv:Value}{L:RL}(h:OR w B sv L)(hb:Below w.heap.size w w'):OR w' B sv L:=cp (show w.ownsRow B 76 2 sv L.length (aN L)from h) hb
theorem OR.mv{B:Nat}{sv:Value}{L:RL}(h:OR w B sv L)(hm:Mv b w w')(hb:b<B):OR w' B sv L:=by
 obtain⟨h1,h2⟩:=(show w.ownsRow B 76 2 sv L.length (aN L)from h)
 refine⟨h1,?_⟩
 rcases h2 with h|⟨g,cap,cur,rfl,hg,hh,hn,hm',hs,ht⟩
 ·exact .inl h
 ·exact .inr ⟨g,cap,cur,rfl,hg,by rw[hm.block g (lt_of_block hh) (by omega)];exact hh,hn,hm',hs,ht⟩
def Kk(R:Except BE PS)(w:World)(e:Ending)(w':World):Prop:=
 (∃f sv L,R=.ok f/\e=.returned sv/\OR w' w.heap.size sv L/\bg f L/\Below w.heap.size w w')\/(∃z a,R=.error (z,a)/\e=aw z a/\Below w.heap.size w w')
theorem hU(s:ByteArray)(no:Bool)(a:Int)(w:World):Calls prog 221 #[.string s,.bool no,.int .i64 a] w fun e w'=>Kk (fB (par d fo) s no a) w e w':=by
 by_cases hs:s∈names
 ·have HC:=I (qh s w hs)
  have hE:Hid (fB (par d fo) s no a=if no then mr (par d fo) (ins (bI s))else .ok (ins (bI s))):=by show _=_;unfold fB;simp only[par];rw[if_pos hs]
  obtain⟨f,hf⟩:∃f,f=ins (bI s):=⟨_,rfl⟩
  rw[<- hf]at HC hE
  clear hs hf
  cases no with
  |false=>
   replace hE:Hid (fB (par d fo) s false a=.ok f):=by show _=_;rw[hE.o];rfl
   go_enter func221,ntmps221
   go_wp2_with fail
   refine HC.o.mono ?_
   rintro e w1 ⟨sv,L,rfl,ho,hset,hb⟩
   have hr:Hid (OR w1 w.heap.size sv L):=ho
   have HS:=I hset
   have HB:=I hb
   obtain⟨ao,c,rfl⟩:=ax ho
   clear ho hset hb
   go_wp2
   go_ret
   exact .inl ⟨f,_,L,hE.o,rfl,hr.o,HS.o,HB.o⟩
  |true=>
   replace hE:Hid (fB (par d fo) s true a=mr (par d fo) f):=by show _=_;rw[hE.o];rfl
   go_enter func221,ntmps221
   go_wp2_with fail
   refine HC.o.mono ?_
   rintro e w1 ⟨sv,L,rfl,ho,hset,hb⟩
   have hr:=ig ho
   have HN:=I (pc sv L w1 hr)
   have HS:=I hset
   have HB:=I hb
   obtain⟨ao,c,rfl⟩:=ax ho
   clear ho hset hb hr HC
   go_wp2_with fail
   refine HN.o.mono ?_
   rintro e w2 ⟨v2,err,O,rfl,hr2,hm2,hb2⟩
   have HB2:=I (HB.o.trans (hb2.mono HB.o.size))
   obtain⟨ao2,c2,hv2⟩:=ax hr2
   have HR2:Hid (OR w2 w.heap.size v2 O):=eU hr2 HB.o.size
   rw[hv2]at HR2 |-
   obtain⟨n2,hn2⟩:∃n2,n2=O.length:=⟨_,rfl⟩
   rw[<- hn2]at HR2 |-
   rcases mh (d:=d) (fo:=fo) HS.o hm2 with⟨h1,h2⟩|⟨h1,h2,h3⟩
   ·have HE:=I (hE.o.trans h1)
    rw[h2]
    have HM:=I (lk ao2 n2 c2 2 (by decide) w2)
    simp only[aw]at HM
    clear h1 h2 hm2 hr2 hv2 hb2 hE HN HR2 hn2
    go_wp2_with fail
    refine HM.o.mono ?_
    rintro e w3 ⟨rfl,rfl⟩
    go_wp2
    exact⟨rfl,.inr ⟨2,0,HE.o,rfl,HB2.o⟩⟩
   ·have HE:=I (hE.o.trans h1)
    rw[h2]
    have HM:=I (lr ao2 n2 c2 w2)
    have H3:=I h3
    clear h1 h2 hm2 hr2 hv2 hb2 hE HN h3 hn2
    go_wp2_with fail
    refine HM.o.mono ?_
    rintro e w3 ⟨rfl,rfl⟩
    go_wp2
    go_ret
    exact .inl ⟨_,_,O,HE.o,rfl,HR2.o,H3.o,HB2.o⟩
 ·have HC:=I (yR s w hs)
  have hE:Hid (fB (par d fo) s no a=.error (5,a)):=by show _=_;unfold fB;simp only[par];rw[if_neg hs]
  clear hs
  go_enter func221,ntmps221
  go_wp2_with fail
  refine HC.o.mono ?_
  rintro e w1 ⟨rfl,hb⟩
  have HB:=I hb
  have HM:=I (aO 5 a w1)
  simp only[aw]at HM
  clear hb HC
  go_wp2_with fail
  refine HM.o.mono ?_
  rintro e w3 ⟨rfl,rfl⟩
  go_wp2
  exact⟨rfl,.inr ⟨5,a,hE.o,rfl,HB.o⟩⟩
def dQ(R:Except BE (PS×Nat))(b:Nat)(v:Value)(l:List Int)(i:Nat)(d:Int)(fo:Bool)(w:World)(e:Ending)(w':World):Prop:=
 (∃f k sv L,R=.ok (f,k)/\e=.returned sv/\OR w' w.heap.size sv L/\bg f L/\BB w' b v l k d fo/\i<k/\Mv b w w')\/(∃z a,R=.error (z,a)/\e=aw z a/\Mv b w w')
theorem Mv.then{w1:World}(h:Mv b w w1)(hb:Below w1.heap.size w1 w'):Mv b w w':=h.trans (Mv.ae hb)
theorem fq{s:ByteArray}:(s.toList=[]->s.toList.isEmpty=true)/\(¬s.toList=[]->s.toList.isEmpty=false):=by
 constructor
 ·intro h;rw[h];rfl
 ·intro h
  cases hh:s.toList with
  |nil=>exact absurd hh h
  |cons _ _=>rfl
theorem ic{no:Bool}{j n:Nat}(hno:no=((par d fo).pG&&aX l (i+2) [94]))(hj:j=if no then i+3 else i+2)(hn:n=(aH l j).length)(h:aH l j=[]\/aX l (j+n) [58,93]=false):dT (par d fo) l i=.error (1,((j+n:Nat):Int)):=by
 subst hno hj hn
 unfold dT
 exact if_pos h
theorem pP{no:Bool}{j n:Nat}(hno:no=((par d fo).pG&&aX l (i+2) [94]))(hj:j=if no then i+3 else i+2)(hn:n=(aH l j).length)(h:¬aH l j=[])(h2:aX l (j+n) [58,93]=true):dT (par d fo) l i=match fB (par d fo) (bE (aH l j)) no i with| .error e=>.error e| .ok f=>.ok (f,j+n+2):=by
 subst hno hj hn
 unfold dT
 exact if_neg (by rw[h2];simpa using h)
end Go.Proofs.YtklbbbldalmnbaaGreatDoor.Br
