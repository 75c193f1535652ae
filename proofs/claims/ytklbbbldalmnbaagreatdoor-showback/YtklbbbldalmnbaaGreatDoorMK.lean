import Derived.Test.YtklbbbldalmnbaaGreatDoorMD
import Derived.Test.YtklbbbldalmnbaaGreatDoorMC
set_option linter.unusedVariables false
namespace Go.Proofs.YtklbbbldalmnbaaGreatDoor.Br
variable {P : JH} {l : List Int} {i : Nat}
def FD(P:JH):Prop:=∀l i x k,P.nx l i=.ok (x,k)->i<k/\k<=l.length
def AV(rec:List Int->Nat->Nat->Except BE (PS×Nat)):Prop:=∀l i deep f k,i<=l.length->rec l i deep=.ok (f,k)->i<k/\k<=l.length
theorem qx(hP:FD P){x:Wd}{k:Nat}(h:dJ P l i=.ok (x,k)):i<k/\k<=l.length:=by
 unfold dJ at h
 cases hl:l[i]? with
 |none=>rw[hl]at h;cases h
 |some p=>
  rw[hl]at h
  have hlt:=(List.getElem?_eq_some_iff.1 hl).1
  simp only at h
  split at h
  ·cases hn:P.nx l i with
   |error e=>rw[hn]at h;cases h
   |ok y=>rw[hn]at h;cases h;exact hP _ _ _ _ hn
  ·cases h;omega
theorem Cv{f:PS}{k:Nat}(h:dT P l i=.ok (f,k)):i<k/\k<=l.length:=by
 unfold dT at h
 simp only at h
 have hj:i+2<=(if (P.pG&&aX l (i+2) [94])=true then i+3 else i+2):=by split<;>omega
 generalize (if (P.pG&&aX l (i+2) [94])=true then i+3 else i+2)=j at h hj
 split at h
 ·cases h
 ·rename_i hh
  split at h
  ·cases h
  ·cases h
   have h2:aX l (j+(aH l j).length) [58,93]=true:=by
    cases hx:aX l (j+(aH l j).length) [58,93]with
    |true=>rfl
    |false=>exact absurd (Or.inr hx) hh
   have:=ji h2 (by simp)
   simp only[List.length_cons,List.length_nil]at this
   omega
theorem Fw(hP:FD P){c q:Int}{k:Nat}(h:iD P l i c=.ok (q,k)):i<k/\k<=l.length:=by
 unfold iD at h
 split at h
 ·cases h
 ·split at h
  ·cases h
  ·cases h
  ·rename_i q' k' heq
   split at h
   ·cases h
   ·cases h;exact qx hP heq
theorem Fh(hP:FD P){rec:List Int->Nat->Nat->Except BE (PS×Nat)}(hr:AV rec){deep:Nat}{f:PS}{k:Nat}(h:fi P rec l i deep=.ok (f,k)):i<k/\k<=l.length:=by
 unfold fi at h
 split at h
 ·exact Cv h
 ·split at h
  ·rename_i hin
   split at h
   ·cases h
   ·have h1:aX l i [91]=true:=by unfold um at hin;simp at hin;exact hin.1.2
    have:=ji h1 (by simp)
    have h2:=hr _ _ _ _ _ (by simpa using this) h
    omega
  ·split at h
   ·cases h
   ·rename_i heq
    split at h
    ·cases h
    ·cases h;exact qx hP heq
   ·rename_i p k' heq
    have h1:=qx hP heq
    split at h
    ·split at h
     ·cases h
     ·rename_i q m he
      cases h
      have h2:=Fw hP he
      omega
    ·cases h;exact h1
theorem sZ(hP:FD P){rec:List Int->Nat->Nat->Except BE (PS×Nat)}(hr:AV rec){first deep:Nat}:∀(n i:Nat) (acc f:PS) (k:Nat),i<=l.length->eN P rec l first deep n i acc=.ok (f,k)->i<=k/\k<=l.length
 |0,i,acc,f,k,hi,h=>by cases h;exact⟨U _,hi⟩
 |n+1,i,acc,f,k,hi,h=>by
  unfold eN at h
  split at h
  ·cases h;exact⟨U _,hi⟩
  ·split at h
   ·cases h
   ·rename_i f' k' heq
    have h1:=Fh hP hr heq
    have h2:=sZ hP hr n k' _ f k h1.2 h
    omega
theorem kC(hP:FD P){rec:List Int->Nat->Nat->Except BE (PS×Nat)}(hr:AV rec){first deep:Nat}{f:PS}{k:Nat}(hi:i<=l.length)(h:eS P rec l first deep i=.ok (f,k)):i<k/\k<=l.length:=by
 unfold eS at h
 split at h
 ·cases h
 ·rename_i f' k' heq
  have h1:=sZ hP hr _ _ _ _ _ hi heq
  split at h
  ·cases h
  ·split at h
   ·split at h
    ·cases h
    ·cases h;omega
   ·cases h;omega
theorem wR(hP:FD P){rec:List Int->Nat->Nat->Except BE (PS×Nat)}(hr:AV rec){first deep:Nat}:∀(n i:Nat) (acc f:PS) (k:Nat),i<=l.length->fA P rec l first deep n i acc=.ok (f,k)->i<=k/\k<=l.length
 |0,i,acc,f,k,hi,h=>by cases h;exact⟨U _,hi⟩
 |n+1,i,acc,f,k,hi,h=>by
  unfold fA at h
  split at h
  ·rename_i han
   have h0:aX l i [38,38]=true:=by unfold kr at han;simp at han;exact han.2
   have h3:=ji h0 (by simp)
   simp only[List.length_cons,List.length_nil]at h3
   split at h
   ·cases h
   ·rename_i f' k' heq
    have h1:=kC hP hr h3 heq
    split at h
    ·cases h
    ·have h2:=wR hP hr n k' _ f k h1.2 h
     omega
  ·cases h;exact⟨U _,hi⟩
theorem vh(hP:FD P){rec:List Int->Nat->Nat->Except BE (PS×Nat)}(hr:AV rec){deep:Nat}{f:PS}{k:Nat}(hi:i<=l.length)(h:gv P rec l i deep=.ok (f,k)):i<k/\k<=l.length:=by
 unfold gv at h
 split at h
 ·cases h
 ·rename_i f' k' heq
  have h1:=kC hP hr hi heq
  split at h
  ·cases h
  ·rename_i g m heq2
   have h2:=wR hP hr _ _ _ _ _ h1.2 heq2
   cases h
   split
   ·rename_i h93
    have:=ji h93 (by simp)
    simp only[List.length_cons,List.length_nil]at this
    omega
   ·omega
theorem qS(hP:FD P):∀n,AV (fl P n)
 |0=>fun l i deep f k hi h=>by cases h
 |n+1=>fun l i deep f k hi h=>by
  unfold fl iW at h
  split at h
  ·rename_i h94
   have h3:=ji h94 (by simp)
   simp only[List.length_cons,List.length_nil]at h3
   split at h
   ·cases h
   ·rename_i f' k' heq
    have h1:=vh hP (qS hP n) h3 heq
    split at h
    ·cases h
    ·cases h;omega
  ·exact vh hP (qS hP n) hi h
theorem IB(d:Int)(fo:Bool):FD (par d fo):=fun l i x k h=>by
 simp only[par]at h
 cases hn:TK.aQ 1 l i with
 |error e=>rw[hn]at h;cases h
 |ok y=>
  rw[hn]at h
  obtain⟨t,k'⟩:=y
  have hk:k'=k:=by
   unfold jU at h
   simp only at h
   split at h
   ·cases h;rfl
   ·split at h
    ·cases h;rfl
    ·cases h
  subst hk
  exact⟨TK.nB hn,Pa.vD hn⟩
theorem BI{d:Int}{fo:Bool}{f:PS}{k:Nat}(hi:i<=l.length)(h:dj d fo l (i:Int)=.ok (f,k)):i<k/\k<=l.length:=by
 unfold dj at h
 split at h
 ·cases h
 ·split at h
  ·cases h
  ·unfold ir at h
   split at h
   ·cases h
   ·rename_i f' k' heq
    split at h
    ·cases h
    ·cases h
     have:=qS (IB d fo) 21 l (i:Int).toNat 0 _ _ (by simpa using hi) heq
     simpa using this
end Go.Proofs.YtklbbbldalmnbaaGreatDoor.Br
namespace Go.Proofs.YtklbbbldalmnbaaGreatDoor.Pa
open TR (Tr)
open Br (BE PS)
variable {l : List Int} {d : Int} {s s' : St}
structure ep(l:List Int)(s:St):Prop where
 inv:Inv l s
 pn:s.pos<=s.next
structure nW(l:List Int)(s:St):Prop where
 next:s.next<=l.length
 jf:s.ay.length<=s.next
 jA:s.names.length<=s.aF
 og:s.aF<=20
 deep:s.deep<=20
theorem ep.yw(h:ep l s):nW l s:=⟨h.inv.next,Nat.le_trans h.inv.jf h.pn,h.inv.jA,h.inv.og,h.inv.deep⟩
theorem eF(hp:TK.cq d l=0)(h:nW l s)(ha:dH d l s=.ok s'):ep l s'/\s'.pos=s.next/\s'.aD=s.aD/\s'.deep=s.deep/\s'.aF=s.aF/\s'.names=s.names/\s'.ay=s.ay:=by
 unfold dH at ha
 split at ha
 ·rename_i he
  cases ha
  exact⟨⟨⟨h.next,h.next,fun hh=>absurd hh (by show ¬s.next<l.length;omega),fun _=>rfl,h.jf,h.jA,h.og,h.deep⟩,U _⟩,rfl,rfl,rfl,rfl,rfl,rfl⟩
 ·rename_i hne
  split at ha
  ·cases ha
  ·rename_i t k heq
   cases ha
   have h1:=TK.nB heq
   have h2:=vD heq
   have h3:=GL (TK.oW hp).2.2 heq
   exact⟨⟨⟨h.next,h2,fun _=>⟨h1,h3⟩,fun hh=>absurd hh hne,h.jf,h.jA,h.og,h.deep⟩,Nat.le_of_lt h1⟩,rfl,rfl,rfl,rfl,rfl,rfl⟩
structure Good(l:List Int)(s:St)(t:Tr)(s':St):Prop where
 inv:ep l s'
 pos:s.pos<=s'.pos
 deep:s'.deep=s.deep
 kids:t.kids.length<=2*(s'.pos - s.pos)
 row:t.kind=9->2<=t.kids.length
theorem B6{t:Tr}(h:ep l s)(hp:s.pos<l.length)(hr:ga s=.ok (t,s')):nW l s'/\s'.pos=s.pos/\s'.next=s.next/\s'.deep=s.deep/\t.kids=[]/\t.kind≠9:=by
 unfold ga at hr
 simp only at hr
 generalize (if s.tok.num<0 then s.tok.num+((s.aF+1:Nat):Int)else s.tok.num)=n at hr
 split at hr
 ·cases hr
 ·cases hr
  have h1:=(h.inv.on hp).1
  exact⟨⟨h.inv.next,by have:=h.inv.jf;simp only[List.length_append,List.length_singleton];omega,h.inv.jA,h.inv.og,h.inv.deep⟩,rfl,rfl,rfl,rfl,by show(18:Int)≠9;decide⟩
theorem pv(hpe:TK.cq d l=0){t:Tr}(h:ep l s)(hp:s.pos<l.length)(hr:cJ d l s=.ok (t,s')):nW l s'/\s'.pos=s.pos/\s.pos<s'.next/\s'.deep=s.deep/\t.kids=[]/\t.kind≠9:=by
 obtain⟨h1,htok⟩:=h.inv.on hp
 unfold cJ at hr
 split at hr
 ·rename_i h3
  cases hr
  refine⟨h.yw,rfl,h1,rfl,rfl,?_⟩
  show s.tok.num≠9
  unfold cI at htok
  omega
 ·split at hr
  ·obtain ⟨a,b,c,e,f,g⟩:=B6 h hp hr
   exact⟨a,b,by omega,e,f,g⟩
  ·split at hr
   ·cases hr
    exact⟨⟨h.inv.next,Nat.le_trans h.inv.jf h.pn,h.inv.jA,h.inv.og,h.inv.deep⟩,rfl,h1,rfl,rfl,by decide⟩
   ·split at hr
    ·cases hr
    ·rename_i f k heq
     cases hr
     have hk:s.next<=k/\k<=l.length:=by
      unfold lW at heq
      split at heq
      ·cases heq;exact⟨U _,h.inv.next⟩
      ·split at heq
       ·cases heq;exact⟨U _,h.inv.next⟩
       ·split at heq
        ·split at heq
         ·cases heq
         ·rename_i f' k' heq2
          cases heq
          have:=Br.BI h.inv.next heq2
          omega
        ·cases heq;exact⟨U _,h.inv.next⟩
     refine⟨⟨hk.2,?_,h.inv.jA,h.inv.og,h.inv.deep⟩,rfl,?_,rfl,rfl,by show(2:Int)≠9;decide⟩
     ·have :=h.inv.jf
      show s.ay.length<=k
      omega
     ·show s.pos<k
      omega
theorem nV{t:ByteArray}(h:nW l s)(hr:cZ s t=.ok s'):nW l s'/\s'.pos=s.pos/\s'.next=s.next/\s'.deep=s.deep/\s'.tok=s.tok:=by
 unfold cZ at hr
 split at hr
 ·cases hr
 ·rename_i h20
  have hg:s.aF+1<=20:=by have:=h.og;omega
  split at hr
  ·cases hr
   exact⟨⟨h.next,h.jf,by have:=h.jA;show s.names.length<=s.aF+1;omega,hg,h.deep⟩,rfl,rfl,rfl,rfl⟩
  ·split at hr
   ·cases hr
   ·cases hr
    exact⟨⟨h.next,h.jf,by have:=h.jA;show(s.names++_).length<=s.aF+1;simp only[List.length_append,List.length_singleton];omega,hg,h.deep⟩,rfl,rfl,rfl,rfl⟩
def gJ(l:List Int)(dp:Nat)(rec:Rd):Prop:=∀fo s t s',ep l s->s.deep=dp->rec fo s=.ok (t,s')->Good l s t s'
theorem Ef(hpe:TK.cq d l=0){rec:Rd}(hrec:gJ l (s.deep+1) rec){t:Tr}(h:ep l s)(hp:s.pos<l.length)(hk:s.tok.kind=7)(hr:cd d l rec s=.ok (t,s')):Good l s t s'/\s.pos<s'.pos:=by
 obtain⟨h1,htok⟩:=h.inv.on hp
 unfold cd at hr
 split at hr
 ·cases hr
 ·rename_i h20
  have hd20:s.deep+1<=20:=by have:=h.inv.deep;omega
  split at hr
  ·cases hr
  ·rename_i s1 heq1
   have hs1:nW l s1/\s1.pos=s.pos/\s1.next=s.next/\s1.deep=s.deep:=by
    split at heq1
    ·obtain ⟨a,b,c,e,_⟩:=nV h.yw heq1
     exact⟨a,b,c,e⟩
    ·cases heq1;exact⟨h.yw,rfl,rfl,rfl⟩
   split at hr
   ·cases hr
   ·rename_i s2 heq2
    obtain⟨i2,p2,_,d2,_⟩:=eF hpe hs1.1 heq2
    split at hr
    ·cases hr
    ·rename_i t3 s3 heq3
     have hg:=hrec _ { s2 with deep:=s2.deep+1 } _ _ (⟨⟨i2.inv.pos,i2.inv.next,i2.inv.on,i2.inv.off,i2.inv.jf,i2.inv.jA,i2.inv.og,by show s2.deep+1<=20;omega⟩,i2.pn⟩) (by show s2.deep+1=_;omega) heq3
     have hgp:s2.pos<=s3.pos:=hg.pos
     have hgd:s3.deep=s2.deep+1:=hg.deep
     split at hr
     ·cases hr
     ·rename_i h8
      split at hr
      ·cases hr
      ·rename_i s4 heq4
       have i3:=hg.inv
       have hp3:s3.pos<l.length:=by
        rcases Nat.lt_or_ge s3.pos l.length with h5|h5
        ·exact h5
        ·have :=i3.inv.off (by have:=i3.inv.pos;omega)
         rw[this]at h8
         exact absurd (by decide) h8
       have h6:=(i3.inv.on hp3).1
       obtain⟨i4,p4,_,d4,_⟩:=eF (s:={ s3 with deep:=s3.deep - 1 }) hpe ⟨i3.inv.next,Nat.le_trans i3.inv.jf i3.pn,i3.inv.jA,i3.inv.og,by show s3.deep - 1<=20;have:=i3.inv.deep;omega⟩ heq4
       have p4':s4.pos=s3.next:=p4
       have d4':s4.deep=s3.deep - 1:=d4
       have hkid:t3.kids.length<=2*(s3.pos - s2.pos):=hg.kids
       split at hr
       ·cases hr
        exact⟨⟨i4,by omega,by omega,by omega,hg.row⟩,by omega⟩
       ·rename_i hn1
        cases hr
        refine⟨⟨i4,by omega,by omega,?_,?_⟩,by omega⟩
        ·show [t3].length<=_
         simp only[List.length_singleton]
         omega
        ·intro h9
         have h9':s.tok.num=9:=h9
         unfold cI at htok
         omega
theorem xk(hpe:TK.cq d l=0){rec:Rd}(hrec:gJ l (s.deep+1) rec){t:Tr}(h:ep l s)(hp:s.pos<l.length)(hr:dy d l rec s=.ok (t,s')):Good l s t s'/\s.pos<s'.pos:=by
 unfold dy at hr
 split at hr
 ·cases hr
 ·split at hr
  ·rename_i h7
   exact Ef hpe hrec h hp h7 hr
  ·split at hr
   ·cases hr
   ·rename_i t1 s1 heq
    obtain⟨a,b,c,e,f,g⟩:=pv hpe h hp heq
    split at hr
    ·cases hr
    ·rename_i s2 heq2
     cases hr
     obtain⟨i2,p2,_,d2,_⟩:=eF hpe a heq2
     refine⟨⟨i2,by omega,by omega,by rw[f];exact Nat.zero_le _,fun h9=>absurd h9 g⟩,by omega⟩
theorem vI(hpe:TK.cq d l=0){may:Bool}{s0:St}:∀(n ahead:Nat) (t:Tr) (s:St) (t':Tr) (s':St),Good l s0 t s->s0.pos<s.pos->gM d l may n ahead t s=.ok (t',s')->Good l s0 t' s'/\s0.pos<s'.pos
 |0,ahead,t,s,t',s',hg,hlt,hr=>by cases hr;exact⟨hg,hlt⟩
 |n+1,ahead,t,s,t',s',hg,hlt,hr=>by
  unfold gM at hr
  split at hr
  ·split at hr
   ·cases hr
   ·split at hr
    ·cases hr
    ·split at hr
     ·cases hr
     ·rename_i s1 heq
      obtain⟨i2,p2,_,d2,_⟩:=eF hpe hg.inv.yw heq
      have hpn:=hg.inv.pn
      have hd:=hg.deep
      refine vI hpe n (ahead+1) _ s1 t' s' ⟨i2,by omega,by omega,?_,fun h9=>?_⟩ (by omega) hr
      ·show [t].length<=_
       simp only[List.length_singleton]
       omega
      ·exact absurd (show(12:Int)=9 from h9) (by decide)
  ·cases hr;exact⟨hg,hlt⟩
theorem nR(hpe:TK.cq d l=0){rec:Rd}(hrec:gJ l (s.deep+1) rec){t:Tr}(h:ep l s)(hp:s.pos<l.length)(hr:cN d l rec s=.ok (t,s')):Good l s t s'/\s.pos<s'.pos:=by
 unfold cN at hr
 split at hr
 ·cases hr
 ·rename_i t1 s1 heq
  obtain⟨a,b⟩:=xk hpe hrec h hp heq
  exact vI hpe _ _ _ _ _ _ a b hr
structure oH(l:List Int)(s:St)(ps:List Tr)(s':St):Prop where
 inv:ep l s'
 pos:s.pos<=s'.pos
 deep:s'.deep=s.deep
 len:ps.length<=s'.pos - s.pos
 kids:(iK ps).length<=2*(s'.pos - s.pos)
 one:∀t∈ps,t.kids.length<=2*(s'.pos - s.pos)/\(t.kind=9->2<=t.kids.length)
theorem AQ(ps:List Tr)(t:Tr):iK (ps++[t])=iK ps++(if t.kind=1 then []else if t.kind=9 then t.kids else [t]):=by
 unfold iK
 rw[List.flatMap_append]
 simp
theorem oH.snoc{s0:St}{ps:List Tr}{t:Tr}(h:oH l s0 ps s)(hg:Good l s t s')(hlt:s.pos<s'.pos):oH l s0 (ps++[t]) s':=by
 have h1:=h.pos
 have h2:=h.len
 have h3:=h.kids
 have h4:=hg.kids
 refine⟨hg.inv,by omega,hg.deep.trans h.deep,by simp only[List.length_append,List.length_singleton];omega,?_,fun u hu=>?_⟩
 ·rw [AQ,List.length_append]
  have:(if t.kind=1 then []else if t.kind=9 then t.kids else [t]).length<=2*(s'.pos - s.pos):=by
   split
   ·simp
   ·split
    ·exact h4
    ·simp only[List.length_singleton];omega
  omega
 ·rcases List.mem_append.1 hu with h5|h5
  ·have :=h.one u h5
   exact⟨by omega,this.2⟩
  ·rw [List.mem_singleton]at h5
   subst h5
   exact⟨by omega,hg.row⟩
theorem pZ(hpe:TK.cq d l=0){rec:Rd}{s0:St}(hrec:gJ l (s0.deep+1) rec):∀(n:Nat) (ps:List Tr) (s:St) (ps':List Tr) (s':St),oH l s0 ps s->dd d l rec n ps s=.ok (ps',s')->oH l s0 ps' s'
 |0,ps,s,ps',s',hg,hr=>by cases hr;exact hg
 |n+1,ps,s,ps',s',hg,hr=>by
  unfold dd at hr
  split at hr
  ·cases hr;exact hg
  ·rename_i hend
   split at hr
   ·cases hr
   ·rename_i t s1 heq
    have hp:s.pos<l.length:=by
     have h1:=hg.inv.inv.pos
     have h2:s.pos≠l.length:=fun e=>hend (by unfold lC;simp[e])
     omega
    obtain⟨a,b⟩:=nR hpe (s:=s) (by rw[hg.deep];exact hrec) hg.inv hp heq
    exact pZ hpe hrec n _ s1 ps' s' (hg.snoc a b) hr
theorem we{α β:Type}(f:α->List β):∀(l:List α) (u:α),u∈l->(f u).length<=(l.flatMap f).length
 |a::l,u,h=>by
  rw[List.flatMap_cons,List.length_append]
  rcases List.mem_cons.1 h with rfl|h
  ·omega
  ·have :=we f l u h
   omega
theorem vw{ps:List Tr}{t:Tr}(h:iK ps=[t])(hr:∀u∈ps,u.kind=9->2<=u.kids.length):t∈ps/\t.kind≠9:=by
 have hm:t∈iK ps:=by rw[h];simp
 unfold iK at hm
 obtain⟨u,hu,hc⟩:=List.mem_flatMap.1 hm
 split at hc
 ·cases hc
 ·split at hc
  ·rename_i h9
   exfalso
   have h2:=hr u hu h9
   have h3:u.kids.length<=(iK ps).length:=by
    have h4:(if u.kind=1 then []else if u.kind=9 then u.kids else [u]).length<=(iK ps).length:=by
     exact we (fun t=>if t.kind=1 then []else if t.kind=9 then t.kids else [t]) ps u hu
    rw[if_neg (by omega),if_pos h9]at h4
    exact h4
   rw[h]at h3
   simp only[List.length_singleton]at h3
   omega
  ·rename_i h9
   rw[List.mem_singleton]at hc
   subst hc
   exact⟨hu,h9⟩
theorem E1{s0:St}{ps:List Tr}(h:oH l s0 ps s):Good l s0 (gU ps) s:=by
 refine⟨h.inv,h.pos,h.deep,?_,?_⟩
 ·unfold gU
  cases hr:iK ps with
  |nil=>exact Nat.zero_le _
  |cons a r=>
   cases r with
   |nil=>exact(h.one a (vw hr fun u hu=>(h.one u hu).2).1).1
   |cons b r=>
    have:=h.kids
    rw[hr]at this
    exact this
 ·unfold gU
  cases hr:iK ps with
  |nil=>intro h9;exact absurd (show(1:Int)=9 from h9) (by decide)
  |cons a r=>
   cases r with
   |nil=>intro h9;exact absurd h9 (vw hr fun u hu=>(h.one u hu).2).2
   |cons b r=>intro _;simp[Tr.kids]
theorem se(h:ep l s):oH l s [] s:=⟨h,U _,rfl,by simp,by simp[iK],fun t ht=>by cases ht⟩
theorem fY(hpe:TK.cq d l=0){rec:Rd}(hrec:gJ l (s.deep+1) rec){t:Tr}(h:ep l s)(hr:cr d l rec s=.ok (t,s')):Good l s t s':=by
 unfold cr at hr
 split at hr
 ·cases hr
 ·rename_i ps s1 heq
  cases hr
  exact E1 (pZ hpe hrec _ _ _ _ _ (se h) heq)
structure lJ(l:List Int)(s:St)(bs:List Tr)(s':St):Prop where
 inv:ep l s'
 pos:s.pos<=s'.pos
 deep:s'.deep=s.deep
 len:bs.length<=s'.pos - s.pos+1
 sum:(bs.flatMap fun t=>if t.kind=10 then t.kids else [t]).length+bs.length<=2*(s'.pos - s.pos)+2
 one:∀t∈bs,t.kids.length<=2*(s'.pos - s.pos)/\(t.kind=9->2<=t.kids.length)
theorem lJ.snoc{s0 s1:St}{bs:List Tr}{t:Tr}(h:lJ l s0 bs s)(hp:s.pos<s1.pos)(hd:s1.deep=s.deep)(hg:Good l s1 t s'):lJ l s0 (bs++[t]) s':=by
 have h1:=h.pos
 have h2:=h.len
 have h3:=h.sum
 have h4:=hg.kids
 have h5:=hg.pos
 have h6:=hg.deep
 have h7:=h.deep
 refine⟨hg.inv,by omega,by omega,by simp only[List.length_append,List.length_singleton];omega,?_,fun u hu=>?_⟩
 ·rw [List.flatMap_append,List.length_append]
  have:(([t]:List Tr).flatMap fun t=>if t.kind=10 then t.kids else [t]).length<=2*(s'.pos - s1.pos)+1:=by
   simp only[List.flatMap_cons,List.flatMap_nil,List.append_nil]
   split
   ·omega
   ·simp
  simp only[List.length_append,List.length_singleton]
  omega
 ·rcases List.mem_append.1 hu with h8|h8
  ·have :=h.one u h8
   exact⟨by omega,this.2⟩
  ·rw [List.mem_singleton]at h8
   subst h8
   exact⟨by omega,hg.row⟩
theorem rN{t:Tr}(hg:Good l s t s'):lJ l s [t] s':=by
 have h4:=hg.kids
 refine⟨hg.inv,hg.pos,hg.deep,by simp,?_,fun u hu=>?_⟩
 ·simp only[List.flatMap_cons,List.flatMap_nil,List.append_nil,List.length_singleton]
  split
  ·omega
  ·simp only[List.length_singleton];omega
 ·rw [List.mem_singleton]at hu
  subst hu
  exact⟨h4,hg.row⟩
theorem wm(hpe:TK.cq d l=0){rec:Rd}{s0:St}(hrec:gJ l (s0.deep+1) rec):∀(n:Nat) (bs:List Tr) (s:St) (bs':List Tr) (s':St),lJ l s0 bs s->cV d l rec n bs s=.ok (bs',s')->lJ l s0 bs' s'
 |0,bs,s,bs',s',hg,hr=>by cases hr;exact hg
 |n+1,bs,s,bs',s',hg,hr=>by
  unfold cV at hr
  split at hr
  ·rename_i h9
   have hp:s.pos<l.length:=by
    rcases Nat.lt_or_ge s.pos l.length with h5|h5
    ·exact h5
    ·have :=hg.inv.inv.off (by have:=hg.inv.inv.pos;omega)
     rw[this]at h9
     exact absurd h9 (by decide)
   have h6:=(hg.inv.inv.on hp).1
   split at hr
   ·cases hr
   ·rename_i s1 heq1
    obtain⟨i2,p2,_,d2,_⟩:=eF hpe hg.inv.yw heq1
    split at hr
    ·cases hr
    ·rename_i t s2 heq2
     have hgo:=fY hpe (s:=s1) (by rw[d2,hg.deep];exact hrec) i2 heq2
     exact wm hpe hrec n _ s2 bs' s' (hg.snoc (by omega) d2 hgo) hr
  ·cases hr;exact hg
theorem xB{s0:St}{bs:List Tr}(h:lJ l s0 bs s)(hne:bs≠[]):Good l s0 (eX bs) s:=by
 refine⟨h.inv,h.pos,h.deep,?_,?_⟩
 ·match bs,hne with
  |[t],_=>exact(h.one t (by simp)).1
  |a::b::r,_=>
   have h1:=h.sum
   show((a::b::r).flatMap fun t=>if t.kind=10 then t.kids else [t]).length<=_
   rw[show (a::b::r).length=r.length+2 from rfl]at h1
   omega
 ·match bs,hne with
  |[t],_=>exact(h.one t (by simp)).2
  |a::b::r,_=>intro h9;exact absurd (show(10:Int)=9 from h9) (by decide)
theorem tY{rec:Rd}:∀(n:Nat) (bs:List Tr) (s:St) (bs':List Tr) (s':St),bs≠[]->cV d l rec n bs s=.ok (bs',s')->bs'≠[]
 |0,bs,s,bs',s',hb,hr=>by cases hr;exact hb
 |n+1,bs,s,bs',s',hb,hr=>by
  unfold cV at hr
  split at hr
  ·split at hr
   ·cases hr
   ·split at hr
    ·cases hr
    ·exact tY n _ _ bs' s' (by simp) hr
  ·cases hr;exact hb
theorem iG(h:ep l s)(fo:Bool):ep l { s with aD:=fo }:=⟨⟨h.inv.pos,h.inv.next,h.inv.on,h.inv.off,h.inv.jf,h.inv.jA,h.inv.og,h.inv.deep⟩,h.pn⟩
theorem rl(hpe:TK.cq d l=0){rec:Rd}{dp:Nat}(hrec:gJ l (dp+1) rec):gJ l dp (bR d l rec):=by
 intro fo s t s' h hd hr
 unfold bR at hr
 split at hr
 ·cases hr
 ·rename_i t1 s1 heq1
  have h1:Good l { s with aD:=fo } t1 s1:=fY hpe (s:={ s with aD:=fo }) (by show gJ l (s.deep+1) rec;rw[hd];exact hrec) (iG h fo) heq1
  have hb:lJ l { s with aD:=fo } [t1] s1:=rN h1
  split at hr
  ·cases hr
  ·rename_i bs s2 heq2
   cases hr
   have h2:=wm hpe (s0:={ s with aD:=fo }) (by show gJ l (s.deep+1) rec;rw[hd];exact hrec) _ _ _ _ _ hb heq2
   have h3:=xB h2 (tY _ _ _ _ _ (by simp) heq2)
   exact⟨iG h3.inv _,h3.pos,h3.deep,h3.kids,h3.row⟩
theorem gj(hpe:TK.cq d l=0):∀(n dp:Nat),gJ l dp (bf d l n)
 |0,dp=>fun fo s t s' _ _ hr=>by cases hr
 |n+1,dp=>rl hpe (gj hpe n (dp+1))
variable {l : List Int} {d : Int} {s s' : St}
inductive jZ(m:Nat):Tr->Prop
 |mk (k n a b c:Int) (f:Bool) (S:RL) (ks:List Tr) (h1:k=18->0<=n/\n<m) (h2:∀t∈ks,jZ m t):jZ m (.mk k n a b c f S ks)
theorem jZ.mono{m m':Nat}{t:Tr}(h:jZ m t)(hm:m<=m'):jZ m' t:=by
 induction h with
 |mk k n a b c f S ks h1 h2 ih=>exact .mk k n a b c f S ks (fun hk=>by have:=h1 hk;omega) ih
theorem jZ.kids{m:Nat}{t:Tr}(h:jZ m t):∀u∈t.kids,jZ m u:=by
 cases h with
 |mk k n a b c f S ks h1 h2=>exact h2
def Fs(s s':St)(t:Tr):Prop:=s.ay.length<=s'.ay.length/\jZ s'.ay.length t
theorem yo(h:dH d l s=.ok s'):s'.ay=s.ay:=by
 unfold dH at h
 split at h
 ·cases h;rfl
 ·split at h
  ·cases h
  ·cases h;rfl
theorem Dk{t:ByteArray}(h:cZ s t=.ok s'):s'.ay=s.ay:=by
 unfold cZ at h
 split at h
 ·cases h
 ·split at h
  ·cases h;rfl
  ·split at h
   ·cases h
   ·cases h;rfl
theorem uB(m:Nat){k n a b c:Int}{f:Bool}{S:RL}(hk:k≠18):jZ m (.mk k n a b c f S []):=.mk k n a b c f S [] (fun h=>absurd h hk) (fun t ht=>by cases ht)
theorem AB{t:Tr}(h:ep l s)(hp:s.pos<l.length)(hr:cJ d l s=.ok (t,s')):Fs s s' t:=by
 obtain⟨h1,htok⟩:=h.inv.on hp
 unfold cJ at hr
 split at hr
 ·cases hr
  exact⟨U _,uB _ (by unfold cI at htok;omega)⟩
 ·split at hr
  ·unfold ga at hr
   simp only at hr
   generalize (if s.tok.num<0 then s.tok.num+((s.aF+1:Nat):Int)else s.tok.num)=n at hr
   split at hr
   ·cases hr
   ·cases hr
    refine⟨by simp,.mk _ _ _ _ _ _ _ _ (fun _=>⟨by omega,?_⟩) (fun t ht=>by cases ht)⟩
    simp only[List.length_append,List.length_singleton]
    omega
  ·split at hr
   ·cases hr;exact⟨U _,uB _ (by decide)⟩
   ·split at hr
    ·cases hr
    ·cases hr;exact⟨U _,uB _ (by decide)⟩
def qE(l:List Int)(dp:Nat)(rec:Rd):Prop:=∀fo s t s',ep l s->s.deep=dp->rec fo s=.ok (t,s')->Fs s s' t
theorem Gy(hpe:TK.cq d l=0){rec:Rd}(hra:qE l (s.deep+1) rec){t:Tr}(h:ep l s)(hp:s.pos<l.length)(hk:s.tok.kind=7)(hr:cd d l rec s=.ok (t,s')):Fs s s' t:=by
 obtain⟨h1,htok⟩:=h.inv.on hp
 unfold cd at hr
 split at hr
 ·cases hr
 ·rename_i h20
  split at hr
  ·cases hr
  ·rename_i s1 heq1
   have hs1:nW l s1/\s1.deep=s.deep/\s1.ay=s.ay:=by
    split at heq1
    ·obtain ⟨a,b,c,e,_⟩:=nV h.yw heq1
     exact⟨a,e,Dk heq1⟩
    ·cases heq1;exact⟨h.yw,rfl,rfl⟩
   split at hr
   ·cases hr
   ·rename_i s2 heq2
    obtain⟨i2,p2,_,d2,_,_,a2⟩:=eF hpe hs1.1 heq2
    split at hr
    ·cases hr
    ·rename_i t3 s3 heq3
     have hd20:s.deep+1<=20:=by have:=h.inv.deep;omega
     have hg:=hra _ { s2 with deep:=s2.deep+1 } _ _ ⟨⟨i2.inv.pos,i2.inv.next,i2.inv.on,i2.inv.off,i2.inv.jf,i2.inv.jA,i2.inv.og,by show s2.deep+1<=20;omega⟩,i2.pn⟩ (by show s2.deep+1=_;omega) heq3
     have hg1:s2.ay.length<=s3.ay.length:=hg.1
     split at hr
     ·cases hr
     ·split at hr
      ·cases hr
      ·rename_i s4 heq4
       have h4:s4.ay=s3.ay:=yo (s:={ s3 with deep:=s3.deep - 1 }) heq4
       have e2:s2.ay=s.ay:=a2.trans hs1.2.2
       split at hr
       ·cases hr
        refine⟨by rw[h4, <-e2];exact hg1,by rw[h4];exact hg.2⟩
       ·cases hr
        refine⟨by rw[h4, <-e2];exact hg1,.mk _ _ _ _ _ _ _ _ (fun h18=>by unfold cI at htok;omega) (fun u hu=>?_)⟩
        rw[List.mem_singleton]at hu
        subst hu
        rw[h4]
        exact hg.2
theorem Hd(hpe:TK.cq d l=0){rec:Rd}(hra:qE l (s.deep+1) rec){t:Tr}(h:ep l s)(hp:s.pos<l.length)(hr:dy d l rec s=.ok (t,s')):Fs s s' t:=by
 unfold dy at hr
 split at hr
 ·cases hr
 ·split at hr
  ·rename_i h7
   exact Gy hpe hra h hp h7 hr
  ·split at hr
   ·cases hr
   ·rename_i t1 s1 heq
    have h1:=AB h hp heq
    split at hr
    ·cases hr
    ·rename_i s2 heq2
     cases hr
     have:=yo heq2
     exact⟨by rw[this];exact h1.1,by rw[this];exact h1.2⟩
theorem Ae{may:Bool}{s0:St}:∀(n ahead:Nat) (t:Tr) (s:St) (t':Tr) (s':St),Fs s0 s t->gM d l may n ahead t s=.ok (t',s')->Fs s0 s' t'
 |0,ahead,t,s,t',s',hg,hr=>by cases hr;exact hg
 |n+1,ahead,t,s,t',s',hg,hr=>by
  unfold gM at hr
  split at hr
  ·split at hr
   ·cases hr
   ·split at hr
    ·cases hr
    ·split at hr
     ·cases hr
     ·rename_i s1 heq
      have h1:=yo heq
      refine Ae n (ahead+1) _ s1 t' s' ⟨by rw[h1];exact hg.1,.mk _ _ _ _ _ _ _ _ (fun h18=>absurd h18 (by decide)) (fun u hu=>?_)⟩ hr
      rw[List.mem_singleton]at hu
      subst hu
      rw[h1]
      exact hg.2
  ·cases hr;exact hg
theorem Fe(hpe:TK.cq d l=0){rec:Rd}(hra:qE l (s.deep+1) rec){t:Tr}(h:ep l s)(hp:s.pos<l.length)(hr:cN d l rec s=.ok (t,s')):Fs s s' t:=by
 unfold cN at hr
 split at hr
 ·cases hr
 ·rename_i t1 s1 heq
  exact Ae _ _ _ _ _ _ (Hd hpe hra h hp heq) hr
def ua(s s':St)(ts:List Tr):Prop:=s.ay.length<=s'.ay.length/\∀t∈ts,jZ s'.ay.length t
theorem ua.snoc{s0:St}{ts:List Tr}{t:Tr}(h:ua s0 s ts)(hg:Fs s s' t):ua s0 s' (ts++[t]):=by
 refine⟨Nat.le_trans h.1 hg.1,fun u hu=>?_⟩
 rcases List.mem_append.1 hu with h1|h1
 ·exact(h.2 u h1).mono hg.1
 ·rw [List.mem_singleton]at h1
  subst h1
  exact hg.2
theorem sK(hpe:TK.cq d l=0){rec:Rd}{s0:St}(hrg:gJ l (s0.deep+1) rec)(hra:qE l (s0.deep+1) rec):∀(n:Nat) (ps:List Tr) (s:St) (ps':List Tr) (s':St),ep l s->s.deep=s0.deep->ua s0 s ps->dd d l rec n ps s=.ok (ps',s')->ua s0 s' ps'
 |0,ps,s,ps',s',hi,hd,hg,hr=>by cases hr;exact hg
 |n+1,ps,s,ps',s',hi,hd,hg,hr=>by
  unfold dd at hr
  split at hr
  ·cases hr;exact hg
  ·rename_i hend
   split at hr
   ·cases hr
   ·rename_i t s1 heq
    have hp:s.pos<l.length:=by
     have h1:=hi.inv.pos
     have h2:s.pos≠l.length:=fun e=>hend (by unfold lC;simp[e])
     omega
    obtain⟨a,b⟩:=nR hpe (s:=s) (by rw[hd];exact hrg) hi hp heq
    exact sK hpe hrg hra n _ s1 ps' s' a.inv (a.deep.trans hd) (hg.snoc (Fe hpe (by rw[hd];exact hra) hi hp heq)) hr
theorem ID{m:Nat}{ps:List Tr}(h:∀t∈ps,jZ m t):jZ m (gU ps):=by
 have hL:∀t∈iK ps,jZ m t:=by
  intro t ht
  unfold iK at ht
  obtain⟨u,hu,hc⟩:=List.mem_flatMap.1 ht
  split at hc
  ·cases hc
  ·split at hc
   ·exact(h u hu).kids t hc
   ·rw [List.mem_singleton]at hc
    subst hc
    exact h t hu
 unfold gU
 cases hr:iK ps with
 |nil=>exact uB _ (by decide)
 |cons a r=>
  cases r with
  |nil=>exact hL a (by rw[hr];simp)
  |cons b r=>exact .mk _ _ _ _ _ _ _ _ (fun h18=>absurd h18 (by decide)) (fun t ht=>hL t (by rw[hr];exact ht))
theorem sU(hpe:TK.cq d l=0){rec:Rd}(hrg:gJ l (s.deep+1) rec)(hra:qE l (s.deep+1) rec){t:Tr}(h:ep l s)(hr:cr d l rec s=.ok (t,s')):Fs s s' t:=by
 unfold cr at hr
 split at hr
 ·cases hr
 ·rename_i ps s1 heq
  cases hr
  have:=sK hpe hrg hra _ _ _ _ _ h rfl ⟨U _,fun t ht=>by cases ht⟩ heq
  exact⟨this.1,ID this.2⟩
theorem zT(hpe:TK.cq d l=0){rec:Rd}{s0:St}(hrg:gJ l (s0.deep+1) rec)(hra:qE l (s0.deep+1) rec):∀(n:Nat) (bs:List Tr) (s:St) (bs':List Tr) (s':St),ep l s->s.deep=s0.deep->ua s0 s bs->cV d l rec n bs s=.ok (bs',s')->ua s0 s' bs'
 |0,bs,s,bs',s',hi,hd,hg,hr=>by cases hr;exact hg
 |n+1,bs,s,bs',s',hi,hd,hg,hr=>by
  unfold cV at hr
  split at hr
  ·split at hr
   ·cases hr
   ·rename_i s1 heq1
    obtain⟨i2,p2,_,d2,_,_,a2⟩:=eF hpe hi.yw heq1
    split at hr
    ·cases hr
    ·rename_i t s2 heq2
     have hd1:s1.deep=s0.deep:=d2.trans hd
     have hgo:=fY hpe (s:=s1) (by rw[hd1];exact hrg) i2 heq2
     have hag:=sU hpe (s:=s1) (by rw[hd1];exact hrg) (by rw[hd1];exact hra) i2 heq2
     have hg1:ua s0 s1 bs:=by unfold ua;rw[a2];exact hg
     exact zT hpe hrg hra n _ s2 bs' s' hgo.inv (hgo.deep.trans hd1) (hg1.snoc hag) hr
  ·cases hr;exact hg
theorem AF{m:Nat}{bs:List Tr}(h:∀t∈bs,jZ m t)(hne:bs≠[]):jZ m (eX bs):=by
 match bs,hne with
 |[t],_=>exact h t (by simp)
 |a::b::r,_=>
  refine .mk _ _ _ _ _ _ _ _ (fun h18=>absurd h18 (by decide)) (fun t ht=>?_)
  obtain⟨u,hu,hc⟩:=List.mem_flatMap.1 ht
  split at hc
  ·exact(h u hu).kids t hc
  ·rw [List.mem_singleton]at hc
   subst hc
   exact h t hu
theorem uk(hpe:TK.cq d l=0){rec:Rd}{dp:Nat}(hrg:gJ l (dp+1) rec)(hra:qE l (dp+1) rec):qE l dp (bR d l rec):=by
 intro fo s t s' h hd hr
 unfold bR at hr
 split at hr
 ·cases hr
 ·rename_i t1 s1 heq1
  have hrg':gJ l (({ s with aD:=fo }:St).deep+1) rec:=by show gJ l (s.deep+1) rec;rw[hd];exact hrg
  have hra':qE l (({ s with aD:=fo }:St).deep+1) rec:=by show qE l (s.deep+1) rec;rw[hd];exact hra
  have h1:=fY hpe (s:={ s with aD:=fo }) hrg' (iG h fo) heq1
  have h2:Fs s s1 t1:=sU hpe (s:={ s with aD:=fo }) hrg' hra' (iG h fo) heq1
  split at hr
  ·cases hr
  ·rename_i bs s2 heq2
   cases hr
   have h3:=zT hpe (s0:={ s with aD:=fo }) hrg' hra' _ _ _ _ _ h1.inv h1.deep ⟨h2.1,fun t ht=>by rw[List.mem_singleton]at ht;subst ht;exact h2.2⟩ heq2
   exact⟨h3.1,AF h3.2 (tY _ _ _ _ _ (by simp) heq2)⟩
theorem mD(hpe:TK.cq d l=0):∀(n dp:Nat),qE l dp (bf d l n)
 |0,dp=>fun fo s t s' _ _ hr=>by cases hr
 |n+1,dp=>uk hpe (gj hpe n (dp+1)) (mD hpe n (dp+1))
theorem uL{names:List Nm}{gr:Nat}:∀(A:List Ag) (ns:List Int),di names gr A=.ok ns->ns.length=A.length
 |[],ns,h=>by cases h;rfl
 |a::A,ns,h=>by
  unfold di at h
  simp only at h
  generalize (if a.name.toList=[]then a.num else(match names.find? (fun m=>m.1.toList==a.name.toList)with|some m=>m.2|none=>0))=n at h
  split at h
  ·cases h
  ·split at h
   ·cases h
   ·rename_i ns' heq
    cases h
    have:=uL A ns' heq
    simp[this]
end Go.Proofs.YtklbbbldalmnbaaGreatDoor.Pa
