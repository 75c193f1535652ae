import Derived.Test.YtklbbbldalmnbaaGreatDoorKC
import Derived.Test.YtklbbbldalmnbaaGreatDoorKO
set_option maxHeartbeats 4000000
set_option maxRecDepth 100000
set_option linter.unusedVariables false
open Go.Proofs.Tryz
namespace Go.Proofs.YtklbbbldalmnbaaGreatDoor
open Go.RowKit
theorem rn{L:RL}{k:Nat}(hk:k<L.length)(h:∀r∈L.take k,er r)(hr:er L[k]):∀r∈L.take (k+1),er r:=by
 intro r h1
 rw[List.take_add_one,List.getElem?_eq_getElem hk]at h1
 rcases List.mem_append.1 h1 with h1|h1
 ·exact h r h1
 ·simp at h1;rw[h1];exact hr
theorem Bt{L:RL}{r:Int×Int}(hl:L.length<=400)(hr:r∈L)(hn:¬er r):du L=3:=by
 unfold du
 rw[if_neg (by omega),if_neg]
 rw[List.all_eq_true]
 intro h
 exact hn ((gR r).1 (h r hr))
theorem oJ(v:Value)(L:RL)(w:World)(hv:Reads w v L):Calls prog 69 #[v] w fun e w'=>e=.returned (.int .i64 (du L))/\Below w.heap.size w w':=by
 by_cases hl:400<L.length
 ·have hE:Hid (du L=2):=by show _=_;simp[du,hl]
  obtain⟨ao,c,rfl⟩:=hv.shape
  clear hv
  obtain⟨n,hn⟩:∃n,n=L.length:=⟨_,rfl⟩
  rw[<- hn]at hl |-
  go_enter func69,ntmps69
  go_wp2
  go_ret
  exact⟨ej hE.o.symm,by go_grown⟩
 ·rcases hv with⟨rfl,rfl⟩|⟨x,c,rfl,hc⟩
  ·go_enter func69,ntmps69
   go_wp2
   go_loop [10] (fun i=>i=.int .i64 0) (fun i=>0)
   case atStart=>exact rfl
   case round=>
    subst hrel
    go_wp2
    go_ret
    exact⟨rfl,by go_grown⟩
  ·obtain ⟨n,hn⟩:∃n,n=L.length:=⟨_,rfl⟩
   have HC:=I hc
   have HN:=I hn
   rw[<- hn]at hl |-
   clear hc hn
   go_enter func69,ntmps69
   go_wp2
   go_loopw [10] (fun i wr=>∃k:Nat,k<=n/\i=.int .i64 k/\(∀r∈L.take k,er r)/\Below w.heap.size w wr) (fun i _=>n - (intOf i).toNat)
   case atStart=>exact⟨0,Nat.zero_le _,rfl,by simp,J _ _⟩
   case round=>
    obtain⟨k,hk,rfl,hok,hb⟩:=hrel
    have hok:=I hok
    by_cases hlt:k<n
    ·have hkL:k<L.length:=by have:=HN.o;omega
     obtain⟨c1,c2⟩:=(HC.o.below hb) k hkL
     obtain⟨r,hr⟩:∃r,r=L[k]:=⟨_,rfl⟩
     rw[<- hr]at c1 c2
     have HR:=I hr
     obtain⟨a,b⟩:=r
     simp only at c1 c2
     clear hr
     by_cases hab:er (a,b)
     ·have hab':=hab
      unfold er at hab'
      simp only at hab'
      obtain⟨h0,h1,h2⟩:=hab'
      have HAB:=I hab
      clear hab
      go_wp2_with (first|(go_at_call 29;refine(lZ _ _).mono ?_;rintro e w' ⟨rfl,rfl⟩))
      go_roundw
      case rel=>exact⟨k+1,by omega,by go_num,rn hkL hok.o (by rw[<- HR.o];exact HAB.o),hb.alloc (by exact hb.size) _⟩
      case measure=>simp[intOf];omega
     ·have hE:Hid (du L=3):=Bt (by have:=HN.o;omega) (r:=(a,b)) (by rw[HR.o];exact List.getElem_mem _) hab
      unfold er at hab
      simp only at hab
      by_cases h1:0<=a/\a<=1114111
      ·by_cases h2:0<=b/\b<=1114111
       ·have h3:b<a:=by omega
        clear hab
        go_wp2_with (first|(go_at_call 29;refine(lZ _ _).mono ?_;rintro e w' ⟨rfl,rfl⟩))
        go_ret
        exact⟨ej hE.o.symm,hb.alloc (by exact hb.size) _⟩
       ·have hd:decide (0<=b/\b<=1114111)=false:=by simpa using h2
        have HI:=I (fun w=>lZ b w)
        rw[hd]at HI
        clear hab h2 hd
        go_wp2_with (first|(go_at_call 29;first|(refine(HI.o _).mono ?_;rintro e w' ⟨rfl,rfl⟩)|(refine(lZ _ _).mono ?_;rintro e w' ⟨rfl,rfl⟩)))
        go_ret
        exact⟨ej hE.o.symm,hb.alloc (by exact hb.size) _⟩
      ·have hd:decide (0<=a/\a<=1114111)=false:=by simpa using h1
       have HI:=I (fun w=>lZ a w)
       rw[hd]at HI
       clear hab h1 hd
       go_wp2_with (first|(go_at_call 29;refine(HI.o _).mono ?_;rintro e w' ⟨rfl,rfl⟩))
       go_ret
       exact⟨ej hE.o.symm,hb.alloc (by exact hb.size) _⟩
    ·have hkn:k=n:=by omega
     have hE:Hid (du L=0):=by
      have h:=hok.o
      rw[hkn,HN.o,List.take_length]at h
      exact lf.2 ⟨by have:=HN.o;omega,h⟩
     go_wp2
     go_ret
     exact⟨ej hE.o.symm,hb⟩
theorem re{L:RL}(h:du L≠0):bj L=du L:=by unfold bj;rw[if_neg h]
theorem AP{L:RL}{j:Nat}(h:du L=0)(hj:j+1<L.length)(hn:¬L[j].2+1<L[j+1].1):bj L=4:=by
 unfold bj
 rw[if_pos h,if_neg]
 rw[ri]
 exact fun hc=>hn (hc j hj)
theorem zg{L:RL}(h:du L=0)(hc:∀j (h:j+1<L.length),L[j].2+1<L[j+1].1):bj L=0:=by
 unfold bj
 rw[if_pos h,if_pos ((ri L).2 hc)]
theorem dA(v:Value)(L:RL)(w:World)(hv:Reads w v L):Calls prog 56 #[v] w fun e w'=>e=.returned (.int .i64 (bj L))/\Below w.heap.size w w':=by
 have H:=I (oJ v L w hv)
 by_cases hr:du L=0
 ·rw [hr] at H
  obtain⟨hlen,hok⟩:=lf.1 hr
  have HR:=I hr
  have HO:=I hok
  clear hr hok
  rcases hv with⟨rfl,rfl⟩|⟨x,c,rfl,hc⟩
  ·go_enter func56,ntmps56
   go_wp2_with fail
   refine H.o.mono ?_
   rintro e w1 ⟨rfl,hb1⟩
   clear H
   go_wp2
   go_loopw [4] (fun i wr=>i=.int .i64 1/\w1=wr) (fun i _=>0)
   case atStart=>exact⟨rfl,rfl⟩
   case round=>
    obtain⟨rfl,rfl⟩:=hrel
    go_wp2
    go_ret
    exact⟨ej rfl,hb1⟩
  ·obtain ⟨n,hn⟩:∃n,n=L.length:=⟨_,rfl⟩
   have HC:=I hc
   have HN:=I hn
   rw[<- hn]at hlen H |-
   clear hc hn
   go_enter func56,ntmps56
   go_wp2_with fail
   refine H.o.mono ?_
   rintro e w1 ⟨rfl,hb1⟩
   clear H
   go_wp2
   go_loopw [4] (fun i wr=>∃k:Nat,k<=n/\i=.int .i64 (k+1)/\(∀j (h:j+1<L.length),j<k->L[j].2+1<L[j+1].1)/\Below w.heap.size w wr) (fun i _=>n+1 - (intOf i).toNat)
   case atStart=>exact⟨0,Nat.zero_le _,rfl,fun j h hj=>by omega,hb1⟩
   case round=>
    obtain⟨k,hk,rfl,hch,hb⟩:=hrel
    have HCh:=I hch
    clear hch
    by_cases hlt:k+1<n
    ·have hkL:k+1<L.length:=by have:=HN.o;omega
     have hkL':k<L.length:=by omega
     obtain⟨c1,c2⟩:=(HC.o.below hb) (k+1) hkL
     obtain⟨c3,c4⟩:=(HC.o.below hb) k hkL'
     have hr1:=HO.o L[k] (List.getElem_mem _)
     unfold er at hr1
     obtain⟨b,hb'⟩:∃b,b=L[k].2:=⟨_,rfl⟩
     obtain⟨a,ha'⟩:∃a,a=L[k+1].1:=⟨_,rfl⟩
     rw[<- ha']at c1
     rw[<- hb']at c4 hr1
     have HA:=I ha'
     have HB:=I hb'
     obtain⟨_,hr2,hr3⟩:=hr1
     have hr4:0<=b:=by omega
     clear c2 c3 ha' hb' hr2
     have e1:(k:Int)+1<(n:Int):=by omega
     have e2:(k:Int)<(n:Int):=by omega
     have e0:(0:Int)<=(k:Int):=by omega
     have c1':wr.cell? (x.add ((k+1)*2))=some (.int .i64 a):=c1
     have wb:IntKind.i64.wrap (b+1)=b+1:=by rw[IntKind.wrap_i64];omega
     by_cases hab:a<=b+1
     ·have hE:Hid (bj L=4):=AP HR.o hkL (by rw[<- HA.o, <-HB.o];omega)
      go_wp2
      go_quiet (fail)
      go_wp2
      go_ret
      exact⟨ej hE.o.symm,below_drewN hb _⟩
     ·have HNab:=I hab
      have hd:decide (a<=b+1)=false:=by simpa using hab
      clear hab
      go_wp2
      go_quiet (fail)
      go_wp2
      go_roundw
      case rel=>exact⟨k+1,by omega,by go_num,fun j h hj=>by
       by_cases hjk:j=k
       ·subst hjk;rw[<- HA.o, <-HB.o];have:=HNab.o;omega
       ·exact HCh.o j h (by omega),below_drewN hb _⟩
      case measure=>simp[intOf];omega
    ·have hE:Hid (bj L=0):=zg HR.o fun j h=>HCh.o j h (by have:=HN.o;omega)
     go_wp2
     go_ret
     exact⟨ej hE.o.symm,hb⟩
 ·have hE:Hid (bj L=du L):=re hr
  clear hv
  obtain⟨z,hz⟩:∃z,z=du L:=⟨_,rfl⟩
  rw[<- hz]at hr H hE
  clear hz
  go_enter func56,ntmps56
  go_wp2_with fail
  refine H.o.mono ?_
  rintro e w1 ⟨rfl,hb1⟩
  go_wp2
  go_ret
  exact⟨ej hE.o.symm,hb1⟩
def cG:List (Value×RL)->Int
 |[]=>0
 |x::xs=>if bj x.2=0 then cG xs else bj x.2
theorem Cw{vs:List (Value×RL)}:cG vs=0↔∀x∈vs,bj x.2=0:=by
 induction vs with
 |nil=>simp[cG]
 |cons x xs ih=>
  unfold cG
  split
  ·rename_i h;rw[ih];simp[h]
  ·rename_i h;simp[h]
theorem yL:∀{vs:List (Value×RL)} {k:Nat} (hk:k<vs.length),(∀x∈vs.take k,bj x.2=0)->bj vs[k].2≠0->cG vs=bj vs[k].2:=by
 intro vs
 induction vs with
 |nil=>intro k hk;simp at hk
 |cons x xs ih=>
  intro k hk h1 h2
  match k with
  |0=>unfold cG;rw[List.getElem_cons_zero]at h2 |-;rw[if_neg h2]
  |k+1=>
   unfold cG
   rw[if_pos (h1 x (by simp))]
   exact ih (by simpa using hk) (fun y hy=>h1 y (by simp[hy])) h2
def Made(f:Int->Bool)(c err:Int)(O:RL):Prop:=(c≠0/\err=c/\O=[])\/(c=0/\∃S,bg f S/\((S.length<=400/\err=0/\O=S)\/(400<S.length/\err=2/\O=[])))
theorem ig{B:Nat}{w:World}{v:Value}{L:RL}(h:w.ownsRow B 76 2 v L.length (aN L)):Reads w v L:=by
 rcases h.2 with⟨rfl,h0⟩|⟨g,cap,cur,rfl,h3⟩
 ·exact .inl ⟨rfl,List.eq_nil_of_length_eq_zero h0⟩
 ·refine .inr ⟨⟨g,0,none⟩,cap,rfl,fun j hj=>?_⟩
  obtain⟨h1,h2⟩:=jI L j hj
  have e1:((⟨g,0,none⟩:Addr).add (j*2))=⟨g,j*2,none⟩:=by unfold Addr.add;split<;>simp_all
  rw[e1]
  simp only
  rw[h.cellAt (j*2) (by omega),h.cellAt (j*2+1) (by omega)]
  exact⟨h1,h2⟩
def JT(f:Int->Bool)(c:Int)(w:World)(e:Ending)(w':World):Prop:=∃v' err O,e=.returned (.tuple #[v',.int .i64 err])/\w'.ownsRow w.heap.size 76 2 v' (List.length O) (aN O)/\Made f c err O/\Below w.heap.size w w'
theorem eU{B B' e k n:Nat}{w:World}{v:Value}{xs:List Value}(h:w.ownsRow B' e k v n xs)(hb:B<=B'):w.ownsRow B e k v n xs:=by
 refine⟨h.1,?_⟩
 rcases h.2 with h2|⟨g,cap,cur,rfl,h3,h4⟩
 ·exact Or.inl h2
 ·exact Or.inr ⟨g,cap,cur,rfl,by omega,h4⟩
def pT(g:Nat)(cb:Array Value)(f:Int->Bool)(w:World):Prop:=Calls prog g cb w fun e w'=>∃ao c O,e=.returned (.slice ao (List.length O) c)/\w'.ownsRow w.heap.size 76 2 (.slice ao (List.length O) c) O.length (aN O)/\bg f O/\Below w.heap.size w w'
theorem pX(g:Nat)(cb:Array Value)(f:Int->Bool)(b:Nat)(vs:List (Value×RL))(w:World)(eg:∀args w,(callFunc g args).run prog w=.ok (.enter g args) w)(hl:vs.length<=4)
  (hvs:∀j (h:j<vs.length),w.cell? ⟨b,j,none⟩=some vs[j].1/\Reads w vs[j].1 vs[j].2) (hdo:cG vs=0->∀w',Below w.heap.size w w'->pT g cb f w'):
  Calls prog 144 #[.func (.func g) #[] cb,.slice (some ⟨b,0,none⟩) vs.length vs.length] w fun e w'=>JT f (cG vs) w e w':=by
 have HV:=I hvs
 have HD:=I hdo
 obtain⟨n,hn⟩:∃n,n=vs.length:=⟨_,rfl⟩
 have HN:=I hn
 rw[<- hn]at hl |-
 clear hvs hdo hn
 go_enter func144,ntmps144
 go_wp2
 go_loopw [12] (fun i wr=>∃k:Nat,k<=n/\i=.int .i64 k/\(∀x∈vs.take k,bj x.2=0)/\Below w.heap.size w wr) (fun i _=>n - (intOf i).toNat)
 case atStart=>exact⟨0,Nat.zero_le _,rfl,by simp,J _ _⟩
 case round=>
  obtain⟨k,hk,rfl,hz,hb⟩:=hrel
  have HZ:=I hz
  have HB:=I hb
  clear hz
  by_cases hlt:k<n
  ·have hkL:k<vs.length:=by have:=HN.o;omega
   obtain⟨c1,hr⟩:=HV.o k hkL
   have c2:wr.cell? ⟨b,k,none⟩=some vs[k].1:=aE hb (bb c1) c1
   have HC:=I (dA _ _ wr (hr.below hb))
   obtain⟨x,hx⟩:∃x,x=vs[k]:=⟨_,rfl⟩
   rw[<- hx]at c2 HC
   have HX:=I hx
   obtain⟨vx,X⟩:=x
   simp only at c2 HC
   clear hx c1 hr hb
   by_cases hc:bj X=0
   ·rw [hc]at HC
    have hnext:Hid (∀x∈vs.take (k+1),bj x.2=0):=by
     intro y hy
     rw[List.take_add_one,List.getElem?_eq_getElem hkL]at hy
     rcases List.mem_append.1 hy with hy|hy
     ·exact HZ.o y hy
     ·simp at hy;rw[hy, <-HX.o];exact hc
    clear hc
    go_wp2_with fail
    refine HC.o.mono ?_
    rintro e w1 ⟨rfl,hb1⟩
    go_wp2
    go_roundw
    case rel=>exact⟨k+1,by omega,by go_num,hnext.o,HB.o.trans (hb1.mono HB.o.size)⟩
    case measure=>simp[intOf];omega
   ·have hE:Hid (cG vs=bj X):=by
     have:=yL hkL HZ.o (by rw[<- HX.o];exact hc)
     rw[<- HX.o]at this
     exact this
    have hne:Hid (cG vs≠0):=by show _≠_;rw[hE.o];exact hc
    obtain⟨z,hz⟩:∃z,z=bj X:=⟨_,rfl⟩
    rw[<- hz]at hc HC hE
    clear hz
    go_wp2_with fail
    refine HC.o.mono ?_
    rintro e w1 ⟨rfl,hb1⟩
    go_wp2
    go_ret2
    exact⟨_,_,[],rfl,World.ownsRow_nil _ _ _ _,.inl ⟨hne.o,hE.o.symm,rfl⟩,HB.o.trans (hb1.mono HB.o.size)⟩
  ·have hkn:k=n:=by omega
   have h0:Hid (cG vs=0):=by
    have h:=HZ.o
    rw[hkn,HN.o,List.take_length]at h
    exact Cw.2 h
   have HM:=I (HD.o h0.o wr hb)
   clear hb
   go_wp2_with (go_at_fn g;refine HM.o.mono ?_;rintro e w2 ⟨ao,c,O,rfl,ho,hs,hb2⟩)
   ·go_ret2
    first
     |exact⟨_,_,[],rfl,World.ownsRow_nil _ _ _ _,.inr ⟨h0.o,O,hs,.inr ⟨by omega,rfl,rfl⟩⟩,HB.o.trans (hb2.mono HB.o.size)⟩
     |exact⟨_,_,O,rfl,eU ho HB.o.size,.inr ⟨h0.o,O,hs,.inl ⟨by omega,rfl,rfl⟩⟩,HB.o.trans (hb2.mono HB.o.size)⟩
   ·go_ret2
    first
     |exact⟨_,_,[],rfl,World.ownsRow_nil _ _ _ _,.inr ⟨h0.o,O,hs,.inr ⟨by omega,rfl,rfl⟩⟩,HB.o.trans (hb2.mono HB.o.size)⟩
     |exact⟨_,_,O,rfl,eU ho HB.o.size,.inr ⟨h0.o,O,hs,.inl ⟨by omega,rfl,rfl⟩⟩,HB.o.trans (hb2.mono HB.o.size)⟩
end Go.Proofs.YtklbbbldalmnbaaGreatDoor
