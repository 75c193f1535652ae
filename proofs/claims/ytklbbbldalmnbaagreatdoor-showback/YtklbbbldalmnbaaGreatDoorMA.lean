import Derived.Test.YtklbbbldalmnbaaGreatDoorKW
set_option linter.unusedVariables false
namespace Go.Proofs.YtklbbbldalmnbaaGreatDoor.Br
theorem jm:∀{A B:List Int},A.Nodup->(∀x∈A,x∈B)->A.length<=B.length
 |[],B,_,_=>by simp
 |a::A,B,hn,hs=>by
  have ha:=hs a (by simp)
  have h1:=jm (A:=A) (B:=B.erase a) (List.nodup_cons.1 hn).2 fun x hx=>by
   refine(List.mem_erase_of_ne ?_).2 (hs x (by simp[hx]))
   intro e
   exact(List.nodup_cons.1 hn).1 (e ▸ hx)
  have h2:=List.length_erase_of_mem ha
  have h3:=List.length_pos_of_mem ha
  simp only[List.length_cons]
  omega
abbrev lD(E:List Int):Prop:=E.Pairwise fun a b=>a+2<=b
theorem iT{E:List Int}(h:lD E):E.Nodup:=List.Pairwise.imp (fun h=>by omega) h
theorem vT:∀{E:List Int} {a b:Int},lD E->(∀x∈E,a<=x/\x<=b)->2*(E.length:Int)<=max 0 (b - a+2)
 |[],a,b,_,_=>by simp;omega
 |x::E,a,b,h,hr=>by
  obtain⟨h1,h2⟩:=List.pairwise_cons.1 h
  have hx:=hr x (by simp)
  have:=vT (a:=x+2) (b:=b) h2 fun y hy=>⟨h1 y hy,(hr y (by simp[hy])).2⟩
  simp only[List.length_cons]
  omega
def Dv(r:Int×Int):Nat:=((r.2 - r.1) / 2+1).toNat
def room(L:List (Int×Int)):Nat:=(L.map Dv).foldr (· + ·) 0
theorem l6:∀{L:List (Int×Int)} {E:List Int},lD E->(∀x∈E,∃r∈L,r.1<=x/\x<=r.2)->E.length<=room L
 |[],E,_,h=>by
  cases E with
  |nil=>simp
  |cons x E=>obtain⟨r,hr,_⟩:=h x (by simp);cases hr
 |r::L,E,ha,h=>by
  have e1:E.length=(E.filter fun x=>decide (r.1<=x)&&decide (x<=r.2)).length+(E.filter fun x=>!(decide (r.1<=x)&&decide (x<=r.2))).length:=by
   have:=List.length_eq_countP_add_countP (fun x=>decide (r.1<=x)&&decide (x<=r.2)) (l:=E)
   rw[List.countP_eq_length_filter,List.countP_eq_length_filter]at this
   rw[this]
   congr 2
   apply List.filter_congr
   intro x _
   cases hh:(decide (r.1<=x)&&decide (x<=r.2))<;>simp
  have h1:=vT (E:=E.filter fun x=>decide (r.1<=x)&&decide (x<=r.2)) (a:=r.1) (b:=r.2) (List.Pairwise.filter _ ha) fun x hx=>by
   have:=(List.mem_filter.1 hx).2
   simpa using this
  have h2:=l6 (L:=L) (E:=E.filter fun x=>!(decide (r.1<=x)&&decide (x<=r.2))) (List.Pairwise.filter _ ha) fun x hx=>by
   obtain⟨hx1,hx2⟩:=List.mem_filter.1 hx
   obtain⟨s,hs,hs2⟩:=h x hx1
   rcases List.mem_cons.1 hs with rfl|hs
   ·exfalso
    simp[hs2.1,hs2.2]at hx2
   ·exact⟨s,hs,hs2⟩
  have h3:room (r::L)=Dv r+room L:=rfl
  unfold Dv at h3
  omega
def gK(S:RL):List Int:=S.map Prod.fst
theorem qB:∀{S:RL},Canon S->∀r∈S,ins S (r.1 - 1)=false
 |[],_,r,hr=>by cases hr
 |s::S,h,r,hr=>by
  obtain⟨h1,h2,h3⟩:=dI.1 h
  unfold er at h1
  rw[dF]
  rcases List.mem_cons.1 hr with rfl|hr
  ·rw [Bool.or_eq_false_iff]
   refine⟨by simp;omega,?_⟩
   rw[jo]
   intro x hx
   have:=h2 x hx
   omega
  ·rw [Bool.or_eq_false_iff]
   refine⟨?_,qB h3 r hr⟩
   have:=h2 r hr
   simp
   omega
theorem kp:∀{S:RL},Canon S->lD (gK S)
 |[],_=>List.Pairwise.nil
 |s::S,h=>by
  obtain⟨h1,h2,h3⟩:=dI.1 h
  unfold er at h1
  refine List.pairwise_cons.2 ⟨fun x hx=>?_,kp h3⟩
  obtain⟨r,hr,rfl⟩:=List.mem_map.1 hx
  have:=h2 r hr
  show s.1+2<=r.1
  omega
theorem ug{f:PS}{S:RL}(h:bg f S){e:Int}(he:e∈gK S):0<=e/\e<=1114111/\f e=true/\(1<=e->f (e - 1)=false):=by
 obtain⟨r,hr,rfl⟩:=List.mem_map.1 he
 have hok:=h.1.1 r hr
 unfold er at hok
 have h1:=h.2 r.1
 rw[(gS _ _).2 ⟨r,hr,Int.le_refl _,hok.2.1⟩]at h1
 have h2:=h.2 (r.1 - 1)
 rw[qB h.1 r hr]at h2
 refine⟨hok.1,by omega,?_,fun h0=>?_⟩
 ·simp at h1;exact h1.2.symm ▸ rfl
 ·simp at h2
  have:=h2 (by omega) (by omega)
  exact this
theorem zZ(f:PS):∀n:Nat,n<=1114112->∃O,uq f O (n:Int)
 |0,_=>⟨[],si f⟩
 |n+1,h=>by
  obtain⟨O,hO⟩:=zZ f n (by omega)
  cases hf:f n with
  |true=>exact⟨_,by have:=vp hO (by omega) (Int.le_refl _) (by omega) (fun q h1 h2=>by rw[show q=(n:Int) by omega];exact hf);simpa using this⟩
  |false=>exact⟨O,by have:=zD hO (Int.le_refl (n:Int)) (fun q h1 h2=>by rw[show q=(n:Int) by omega];exact hf);simpa using this⟩
theorem CZ(f:PS):∃S,bg f S:=by
 obtain⟨O,hO⟩:=zZ f 1114112 (U _)
 exact⟨O,wO hO rfl⟩
theorem Kz{f:PS}(h:∀S,bg f S->S.length<=400):bC f=false:=by
 obtain⟨S,hS⟩:=CZ f
 rw[eW hS]
 have:=h S hS
 simp
 omega
theorem ly(f:PS){q:Int}(h0:0<=q)(h1:q<=1114111):ez f q=true↔f q=true\/∃p,0<=p/\p<=1114111/\f p=true/\ins Fo.da p=true/\q∈Fo.ja p:=by
 obtain⟨S,hS⟩:=CZ f
 rw[xU hS]
 unfold lL
 rw[Bool.or_eq_true,ff hS h0 h1,List.any_eq_true]
 constructor
 ·rintro (h|⟨p,hp,hq⟩)
  ·exact .inl h
  ·obtain ⟨p0,p1⟩:=qq hS.1 p hp
   rw[gO,ff hS p0 p1]at hp
   simp only[Bool.and_eq_true,decide_eq_true_eq]at hq
   exact .inr ⟨p,p0,p1,hp,hq.1,hq.2⟩
 ·rintro (h|⟨p,p0,p1,hp,ha,hq⟩)
  ·exact .inl h
  ·refine .inr ⟨p,?_,?_⟩
   ·rw[gO,ff hS p0 p1];exact hp
   ·simp[ha,hq]
def ke(j:Nat):RL:=bI (names.getD j Fo.tB)
inductive It where
 |kV (p q:Int)
 |cls (j:Nat) (neg:Bool) (c:Nat)
def It.set:It->PS
 | .kV p q=>fun x=>decide (p<=x)&&decide (x<=q)
 | .cls j neg _=>fun x=>if neg then !ins (ke j) x else ins (ke j) x
def It.cost:It->Nat
 | .kV _ _=>1
 | .cls _ _ c=>c
def KA(j:Nat):Nat:=[7,9,9,2,2,9,2,9,9,9,9,9,2,9].getD j 0
def Hy(j:Nat):Nat:=[0,0,0,0,0,0,5,1,0,15,15,0,3,0].getD j 0
def It.ok:It->Prop
 | .kV p q=>0<=p/\p<=q/\q<=1114111
 | .cls j neg c=>j<14/\KA j<=c
def IR:List Int:=[65,97,192,224,216,248,913,945,931,963,1024,1104,1040,1072,181,924,956,962,8490,75,107,8491,197,229,7838,223]
def JN(e:Int):Bool:=IR.contains e||(Fo.ja e).all fun p=>p==e||p - 1==e||p==e - 1||((Fo.ja (p - 1)).contains (e - 1)&&ins Fo.da (p - 1)&&decide (1<=p))
theorem Ft:Fo.vX.all JN=true:=by decide +kernel
def JA(e:Int):Bool:=IR.contains e||decide ((Fo.ja e).length<=2)
theorem GR:Fo.vX.all JA=true:=by decide +kernel
def Je:List (Int×Int):=[(66,74),(76,90),(193,196),(198,214),(217,222),(914,923),(925,929),(932,939),(1025,1039),(1041,1071)]
def Hx(e:Int):Bool:=IR.contains e||Fo.least e==e||IR.contains (Fo.least e)||e==Fo.least e+1||(Je.any (fun r=>decide (r.1<=Fo.least e)&&decide (Fo.least e<=r.2))&&ins (ke 10) (e - 1)&&ins (ke 9) (Fo.least e - 1))
theorem DN:Fo.vX.all Hx=true:=by decide +kernel
theorem FY:room Je=63:=by decide +kernel
def F7(j:Nat):List Int:=((ke j).map Prod.fst).filter fun p=>!ins (ke j) (p - 1)
def yC(x:Int):Bool:=(Fo.ja x).any fun e=>!IR.contains e
def Jh(j:Nat):List Int:=((F7 j).map Fo.least).filter yC
theorem IW:((List.range 14).all fun j=>decide ((Jh j).length<=KA j+Hy j))=true:=by decide +kernel
theorem EI:((List.range 14).all fun j=>decide (j=0)||decide (room (ke j)<=399))=true:=by decide +kernel
theorem mu:((List.range 14).all fun j=>(ke j).all okB)=true:=by decide +kernel
theorem Gw{q:Int}(h0:0<=q)(h1:q<=1114111):ins (ke 0) q=true:=by
 rw[gS]
 exact⟨(0,1114111),by decide +kernel,h0,h1⟩
def It.gK:It->List Int
 | .kV p _=>[p]
 | .cls j _ _=>F7 j
noncomputable def fP(b:Bool)(f:PS):PS:=if b then ez f else f
noncomputable def US(D:List (It×Bool)):PS:=fun q=>D.any fun t=>fP t.2 t.1.set q
theorem D6{b:Bool}{f:PS}{q:Int}(h0:0<=q)(h1:q<=1114111)(h:f q=true):fP b f q=true:=by
 unfold fP
 cases b
 ·exact h
 ·exact(ly f h0 h1).2 (.inl h)
theorem It.left{t:It}(ht:t.ok)(hn:∀j c,t=.cls j true c->j=0){p:Int}(h0:0<=p)(h1:p<=1114111)(hp:t.set p=true)(hm:1<=p->t.set (p - 1)=false):p∈t.gK:=by
 cases t with
 |kV a b=>
  simp only[It.ok]at ht
  simp only[It.set,Bool.and_eq_true,decide_eq_true_eq]at hp hm
  simp only[It.gK,List.mem_singleton]
  by_cases h:1<=p
  ·have :=hm h
   simp at this
   omega
  ·omega
 |cls j neg c=>
  cases neg with
  |true=>
   have hj:=hn j c rfl
   subst hj
   exfalso
   simp only[It.set,if_true]at hp
   rw[Gw h0 h1]at hp
   cases hp
  |false=>
   simp only[It.set,Bool.false_eq_true,if_false]at hp hm
   obtain⟨r,hr,ha,hb⟩:=(gS _ _).1 hp
   have hj:=ht.1
   have hok:er r:=(gR r).1 (List.all_eq_true.1 (List.all_eq_true.1 mu j (List.mem_range.2 hj)) r hr)
   unfold er at hok
   have hrp:r.1=p:=by
    by_cases h:1<=p
    ·have h2:=hm h
     rw[jo]at h2
     have:=h2 r hr
     omega
    ·omega
   simp only[It.gK,F7,List.mem_filter,List.mem_map]
   refine⟨⟨r,hr,hrp⟩,?_⟩
   by_cases h:1<=p
   ·rw[hm h];rfl
   ·have:ins (ke j) (p - 1)=false:=by
     rw[jo]
     intro x hx hh
     have hok2:er x:=(gR x).1 (List.all_eq_true.1 (List.all_eq_true.1 mu j (List.mem_range.2 hj)) x hx)
     unfold er at hok2
     omega
    rw[this];rfl
theorem FV{p q:Int}(h:q∈Fo.ja p):p∈Fo.ja q:=by rw[Fo.qz p q h];exact Fo.kF p
theorem Jn{D:List (It×Bool)}(hD:∀t∈D,t.1.ok)(hn:∀t∈D,∀j c,t.1=.cls j true c->j=0){e:Int}(h0:0<=e)(h1:e<=1114111)(he:US D e=true)(hm:1<=e->US D (e - 1)=false)(hir:e ∉ IR):∃t∈D,∃p∈t.1.gK,Fo.least e=Fo.least p:=by
 obtain⟨t,ht,hf⟩:=List.any_eq_true.1 he
 have hm':1<=e->fP t.2 t.1.set (e - 1)=false:=fun h=>by
  have:=hm h
  unfold US at this
  rw[List.any_eq_false]at this
  simpa using this t ht
 have hms:1<=e->t.1.set (e - 1)=false:=fun h=>by
  cases hh:t.1.set (e - 1)with
  |false=>rfl
  |true=>have:=hm' h;rw[D6 (by omega) (by omega) hh]at this;cases this
 cases hs:t.1.set e with
 |true=>exact⟨t,ht,e,It.left (hD t ht) (hn t ht) h0 h1 hs hms,rfl⟩
 |false=>
  cases hb:t.2 with
  |false=>
   rw[hb]at hf
   simp only[fP,Bool.false_eq_true,if_false]at hf
   rw[hs]at hf
   cases hf
  |true=>
   rw[hb]at hf hm'
   simp only[fP,if_true]at hf hm'
   rcases(ly _ h0 h1).1 hf with h|⟨p,p0,p1,hp,ha,hq⟩
   ·rw[hs]at h;cases h
   ·have hpe:p≠e:=fun h=>by rw[h,hs]at hp;cases hp
    have hpo:=FV hq
    have hrel:Fo.jY e=true:=by
     cases hr:Fo.jY e with
     |true=>rfl
     |false=>
      rw[Fo.kB hr]at hpo
      simp at hpo
      exact absurd hpo hpe
    have hreg:=List.all_eq_true.1 Ft e (Fo.jh hrel)
    unfold JN at hreg
    rw[Bool.or_eq_true]at hreg
    rcases hreg with hreg|hreg
    ·exact absurd (by simpa using hreg) hir
    ·have h3:=List.all_eq_true.1 hreg p hpo
     have hleft:t.1.set (p - 1)=false->∃t∈D,∃p∈t.1.gK,Fo.least e=Fo.least p:=fun hh=>
      ⟨t,ht,p,It.left (hD t ht) (hn t ht) p0 p1 hp (fun _=>hh),((Fo.sI p e).2 hq).symm⟩
     simp only[Bool.or_eq_true,beq_iff_eq,Bool.and_eq_true,decide_eq_true_eq,List.contains_iff_mem]at h3
     rcases h3 with((h3|h3)|h3)|⟨⟨h3,h4⟩,h5⟩
     ·exact absurd h3 hpe
     ·exact hleft (by rw[h3];exact hs)
     ·exfalso
      have:=hm' (by omega)
      rw[(ly _ (by omega) (by omega)).2 (.inl (by rw[<- h3];exact hp))]at this
      cases this
     ·refine hleft ?_
      cases hh:t.1.set (p - 1)with
      |false=>rfl
      |true=>
       exfalso
       have he1:1<=e:=by
        have:=Fo.CL hrel
        have h6:e∈Fo.vX:=Fo.jh hrel
        by_cases h7:1<=e
        ·exact h7
        ·have :e=0:=by omega
         subst this
         exact absurd hrel (by decide)
       have:=hm' he1
       rw[(ly _ (by omega) (by omega)).2 (.inr ⟨p - 1,by omega,by omega,hh,h4,h3⟩)]at this
       cases this
def CS(L:List Nat):Nat:=(L.map Hy).foldr (· + ·) 0
def oB(D:List (It×Bool)):Nat:=(D.map fun t=>t.1.cost).foldr (· + ·) 0
theorem lY(t:It×Bool)(D:List (It×Bool)):oB (t::D)=t.1.cost+oB D:=rfl
theorem sg:∀{L:List Nat} {j:Nat},j∈L->CS (L.erase j)+Hy j=CS L
 |[],j,h=>by cases h
 |a::L,j,h=>by
  by_cases hj:a=j
  ·subst hj
   rw[List.erase_cons_head]
   show CS L+Hy a=Hy a+CS L
   omega
  ·have hm:j∈L:=by
    rcases List.mem_cons.1 h with h|h
    ·exact absurd h.symm hj
    ·exact h
   rw[List.erase_cons_tail (by simpa using hj)]
   have:=sg hm
   show Hy a+CS (L.erase j)+Hy j=Hy a+CS L
   omega
theorem Di{p:Int}{j:Nat}(hp:p∈F7 j)(hu:yC (Fo.least p)=true):Fo.least p∈Jh j:=by
 unfold Jh
 exact List.mem_filter.2 ⟨List.mem_map.2 ⟨p,hp,rfl⟩,hu⟩
theorem EN(Nm:List Nat):∀(D:List (It×Bool)),(∀t∈D,t.1.ok)->(∀t∈D,∀j neg c,t.1=.cls j neg c->j∈Nm)->∃(X:List Int) (R:List Nat),(∀t∈D,∀p∈t.1.gK,yC (Fo.least p)=true->Fo.least p∈X)/\(∀j∈Nm,j ∉ R->∀x∈Jh j,x∈X)/\X.length+CS R<=oB D+CS Nm
 |[],_,_=>⟨[],Nm,by simp,fun j h1 h2=>absurd h1 h2,by simp[oB]⟩
 |t::D,hok,hnm=>by
  obtain⟨X,R,h1,h2,h3⟩:=EN Nm D (fun t ht=>hok t (by simp[ht])) (fun t ht=>hnm t (by simp[ht]))
  obtain⟨d,b⟩:=t
  have hd:=hok (d,b) (by simp)
  cases d with
  |kV p q=>
   refine⟨Fo.least p::X,R,?_,fun j a b x hx=>by simp[h2 j a b x hx],?_⟩
   ·intro t ht x hx hu
    rcases List.mem_cons.1 ht with rfl|ht
    ·simp only[It.gK,List.mem_singleton]at hx
     subst hx
     simp
    ·simp[h1 t ht x hx hu]
   ·rw [lY]
    simp only[It.cost,List.length_cons]
    omega
  |cls j neg c=>
   have hj:=hnm (.cls j neg c,b) (by simp) j neg c rfl
   by_cases hr:j∈R
   ·refine ⟨Jh j++X,R.erase j,?_,?_,?_⟩
    ·intro t ht x hx hu
     rcases List.mem_cons.1 ht with rfl|ht
     ·exact List.mem_append.2 (.inl (Di hx hu))
     ·exact List.mem_append.2 (.inr (h1 t ht x hx hu))
    ·intro k hk hkr x hx
     by_cases hkj:k=j
     ·subst hkj;exact List.mem_append.2 (.inl hx)
     ·exact List.mem_append.2 (.inr (h2 k hk (fun h=>hkr ((List.mem_erase_of_ne hkj).2 h)) x hx))
    ·have e1:=sg hr
     have e2:=List.all_eq_true.1 IW j (List.mem_range.2 hd.1)
     simp only[decide_eq_true_eq]at e2
     have e3:=hd.2
     rw[lY,List.length_append]
     simp only[It.cost]
     omega
   ·refine ⟨X,R,?_,h2,?_⟩
    ·intro t ht x hx hu
     rcases List.mem_cons.1 ht with rfl|ht
     ·exact h2 j hj hr _ (Di hx hu)
     ·exact h1 t ht x hx hu
    ·rw [lY]
     omega
theorem BW{E:List Int}(h:lD E){x y:Int}(hx:x∈E)(hy:y∈E)(hxy:x<y):x+2<=y:=by
 induction E with
 |nil=>cases hx
 |cons a E ih=>
  obtain⟨h1,h2⟩:=List.pairwise_cons.1 h
  rcases List.mem_cons.1 hx with ha|hx2
  ·rcases List.mem_cons.1 hy with hb|hy2
   ·omega
   ·have:=h1 y hy2;omega
  ·rcases List.mem_cons.1 hy with hb|hy2
   ·have:=h1 x hx2;omega
   ·exact ih h2 hx2 hy2
theorem kS(E:List Int)(p:Int->Bool):E.length=(E.filter p).length+(E.filter fun x=>!p x).length:=by
 have:=List.length_eq_countP_add_countP p (l:=E)
 rw[List.countP_eq_length_filter,List.countP_eq_length_filter]at this
 rw[this]
 congr 2
 apply List.filter_congr
 intro x _
 cases hh:p x<;>simp
theorem ED{e:Int}(h:Fo.least e≠e):Fo.jY e=true:=by
 cases hr:Fo.jY e with
 |true=>rfl
 |false=>
  exfalso
  apply h
  unfold Fo.least
  rw[Fo.kB hr]
  rfl
theorem Bm{a b:Int}(ha:a ∉ IR)(hb:b ∉ IR)(ha2:Fo.least a≠a)(hb2:Fo.least b≠b)(h:Fo.least a=Fo.least b):a=b:=by
 have hab:=(Fo.sI a b).1 h
 have h2:=List.all_eq_true.1 GR a (Fo.jh (ED ha2))
 unfold JA at h2
 rw[Bool.or_eq_true]at h2
 rcases h2 with h2|h2
 ·exact absurd (by simpa using h2) ha
 ·have hl:(Fo.ja a).length<=2:=by simpa using h2
  have m1:=Fo.s9 a
  have m2:=Fo.kF a
  generalize Fo.ja a=O at hl m1 m2 hab
  match O,hl with
  |[],_=>cases m1
  |[x],_=>
   simp at m1 m2
   exact absurd (m1.trans m2.symm) ha2
  |[x,y],_=>
   simp at m1 m2 hab
   rw[h]at m1
   rcases m1 with m1|m1<;>rcases m2 with m2|m2<;>rcases hab with hab|hab<;>first
    |omega
    |(exfalso;apply ha2;rw[h];omega)
    |(exfalso;apply hb2;omega)
theorem Co{e:Int}(h:e ∉ IR):yC (Fo.least e)=true:=by
 unfold yC
 rw[List.any_eq_true]
 refine⟨e,?_,by simpa using h⟩
 rw[Fo.nL]
 exact Fo.kF e
theorem yA{D:List (It×Bool)}(hD:∀t∈D,t.1.ok)(hn:∀t∈D,∀j c,t.1=.cls j true c->j=0)(hc:oB D<=299){S:RL}(hS:bg (US D) S):S.length<=400:=by
 obtain⟨E,hE⟩:∃E,E=gK S:=⟨_,rfl⟩
 have hlen:S.length=E.length:=by rw[hE];simp[gK]
 have hap:lD E:=by rw[hE];exact kp hS.1
 have hnd:=iT hap
 have hin:∀e∈E,0<=e/\e<=1114111/\US D e=true/\(1<=e->US D (e - 1)=false):=fun e he=>ug hS (by rw[<- hE];exact he)
 have s1:=kS E (fun e=>IR.contains e)
 have l1:(E.filter fun e=>IR.contains e).length<=26:=by
  have:=jm (A:=E.filter fun e=>IR.contains e) (B:=IR) (List.Pairwise.filter _ hnd) fun x hx=>by
   have:=(List.mem_filter.1 hx).2
   simpa using this
  simpa[IR]using this
 obtain⟨E2,hE2⟩:∃E2,E2=E.filter fun e=>!IR.contains e:=⟨_,rfl⟩
 rw[<- hE2]at s1
 have m2:∀e∈E2,e∈E/\e ∉ IR:=fun e he=>by
  rw[hE2]at he
  have:=List.mem_filter.1 he
  exact⟨this.1,by simpa using this.2⟩
 have a2:lD E2:=by rw[hE2];exact List.Pairwise.filter _ hap
 have s2:=kS E2 (fun e=>Fo.least e==e)
 obtain⟨A,hA⟩:∃A,A=E2.filter fun e=>Fo.least e==e:=⟨_,rfl⟩
 obtain⟨B,hB⟩:∃B,B=E2.filter fun e=>!(Fo.least e==e):=⟨_,rfl⟩
 rw[<- hA, <-hB]at s2
 have mA:∀e∈A,e∈E2/\Fo.least e=e:=fun e he=>by
  rw[hA]at he
  have:=List.mem_filter.1 he
  exact⟨this.1,by simpa using this.2⟩
 have mB:∀e∈B,e∈E2/\Fo.least e≠e:=fun e he=>by
  rw[hB]at he
  have:=List.mem_filter.1 he
  exact⟨this.1,by simpa using this.2⟩
 have aA:lD A:=by rw[hA];exact List.Pairwise.filter _ a2
 have aB:lD B:=by rw[hB];exact List.Pairwise.filter _ a2
 obtain⟨M,hM⟩:∃M,M=B.map Fo.least:=⟨_,rfl⟩
 have hMl:M.length=B.length:=by rw[hM];simp
 have nM:M.Nodup:=by
  rw[hM]
  refine List.pairwise_map.2 (List.Pairwise.imp_of_mem ?_ (iT aB))
  intro a b ha hb hab h
  exact hab (Bm (m2 a (mB a ha).1).2 (m2 b (mB b hb).1).2 (mB a ha).2 (mB b hb).2 h)
 have s3:=kS M (fun x=>A.contains x)
 -- what stands for itself, or for another
 have hX:∀x∈A++M.filter (fun x=>!A.contains x),yC x=true/\∃t∈D,∃p∈t.1.gK,x=Fo.least p:=by
  have key:∀e∈E2,yC (Fo.least e)=true/\∃t∈D,∃p∈t.1.gK,Fo.least e=Fo.least p:=fun e he=>by
   obtain⟨h1,h2⟩:=m2 e he
   obtain⟨h3,h4,h5,h6⟩:=hin e h1
   exact⟨Co h2,Jn hD hn h3 h4 h5 h6 h2⟩
  intro x hx
  rcases List.mem_append.1 hx with hx|hx
  ·obtain ⟨h1,h2⟩:=mA x hx
   have:=key x h1
   rw[h2]at this
   exact this
  ·have :=(List.mem_filter.1 hx).1
   rw[hM]at this
   obtain⟨e,he,rfl⟩:=List.mem_map.1 this
   exact key e (mB e he).1
 have nX:(A++M.filter (fun x=>!A.contains x)).Nodup:=by
  refine List.nodup_append.2 ⟨iT aA,List.Pairwise.filter _ nM,?_⟩
  intro x hx y hy h
  subst h
  have:=(List.mem_filter.1 hy).2
  simp[hx]at this
 have lX:∀Nm:List Nat,(∀t∈D,∀j neg c,t.1=.cls j neg c->j∈Nm)->A.length+(M.filter fun x=>!A.contains x).length<=299+CS Nm:=fun Nm hNm=>by
  obtain⟨X,R,g1,g2,g3⟩:=EN Nm D hD hNm
  have:=jm nX (B:=X) fun x hx=>by
   obtain⟨hu,t,ht,p,hp,rfl⟩:=hX x hx
   exact g1 t ht p hp hu
  rw[List.length_append]at this
  omega
 -- pairs
 have hpair:∀x∈M.filter (fun x=>A.contains x),x∈A/\∃e∈E,e ∉ IR/\Fo.least e=x/\(Je.any (fun r=>decide (r.1<=x)&&decide (x<=r.2))&&ins (ke 10) (e - 1)&&ins (ke 9) (x - 1))=true:=fun x hx=>by
  obtain⟨h1,h2⟩:=List.mem_filter.1 hx
  have hxA:x∈A:=by simpa using h2
  rw[hM]at h1
  obtain⟨e,he,hex⟩:=List.mem_map.1 h1
  obtain⟨h3,h4⟩:=mB e he
  obtain⟨h5,h6⟩:=m2 e h3
  refine⟨hxA,e,h5,h6,hex,?_⟩
  have hp:=List.all_eq_true.1 DN e (Fo.jh (ED h4))
  unfold Hx at hp
  rw[hex]at hp
  have hxE:=m2 x (mA x hxA).1
  simp only[Bool.or_eq_true,beq_iff_eq,List.contains_iff_mem]at hp
  rcases hp with(((hp|hp)|hp)|hp)|hp
  ·exact absurd hp h6
  ·exact absurd (hex.trans hp) h4
  ·exact absurd hp hxE.2
  ·have :=BW hap hxE.1 h5 (by omega)
   omega
  ·exact hp
 by_cases hul:∃t∈D,∃j c,t.1=.cls j false c/\(j=9\/j=10)
 ·have l4:(M.filter fun x=>A.contains x)=[]:=by
   rw[List.eq_nil_iff_forall_not_mem]
   intro x hx
   obtain⟨hxA,e,heE,hei,hex,hp⟩:=hpair x hx
   simp only[Bool.and_eq_true]at hp
   obtain⟨⟨hp1,hp2⟩,hp3⟩:=hp
   obtain⟨t,ht,j,c,htc,hj⟩:=hul
   have hxE:=hin x (m2 x (mA x hxA).1).1
   have heI:=hin e heE
   have hpos:∀y:Int,∀k,k<14->ins (ke k) (y - 1)=true->1<=y:=fun y k hk hy=>by
    obtain⟨r,hr,h1,h2⟩:=(gS _ _).1 hy
    have hok:er r:=(gR r).1 (List.all_eq_true.1 (List.all_eq_true.1 mu k (List.mem_range.2 hk)) r hr)
    unfold er at hok
    omega
   have hin2:∀y:Int,0<=y->y<=1114111->ins (ke j) y=true->US D y=true:=fun y h0 h1 hy=>by
    unfold US
    rw[List.any_eq_true]
    refine⟨t,ht,D6 h0 h1 ?_⟩
    rw[htc]
    simpa[It.set]using hy
   rcases hj with rfl|rfl
   ·have h1:=hpos x 9 (by omega) hp3
    have:=hxE.2.2.2 h1
    rw[hin2 _ (by omega) (by omega) hp3]at this
    cases this
   ·have h1:=hpos e 10 (by omega) hp2
    have:=heI.2.2.2 h1
    rw[hin2 _ (by omega) (by omega) hp2]at this
    cases this
  have l5:=lX (List.range 14) (fun t ht j neg c h=>by
   have:=hD t ht
   rw[h]at this
   exact List.mem_range.2 this.1)
  have:CS (List.range 14)=39:=by decide
  rw[l4]at s3
  simp only[List.length_nil]at s3
  omega
 ·have l4:(M.filter fun x=>A.contains x).length<=63:=by
   have h1:(A.filter fun x=>Je.any fun r=>decide (r.1<=x)&&decide (x<=r.2)).length<=room Je:=l6 (List.Pairwise.filter _ aA) fun x hx=>by
    have:=(List.mem_filter.1 hx).2
    obtain⟨r,hr,h⟩:=List.any_eq_true.1 this
    exact⟨r,hr,by simpa using h⟩
   have h2:=jm (A:=M.filter fun x=>A.contains x) (B:=A.filter fun x=>Je.any fun r=>decide (r.1<=x)&&decide (x<=r.2)) (List.Pairwise.filter _ nM) fun x hx=>by
    obtain⟨hxA,e,_,_,_,hp⟩:=hpair x hx
    simp only[Bool.and_eq_true]at hp
    exact List.mem_filter.2 ⟨hxA,hp.1.1⟩
   rw[FY]at h1
   omega
  have l5:=lX [0,1,2,3,4,5,6,7,8,11,12,13] (fun t ht j neg c h=>by
   have hok:=hD t ht
   rw[h]at hok
   have hj:=hok.1
   cases neg with
   |true=>have:=hn t ht j c h;subst this;simp
   |false=>
    have h9:j≠9:=fun e=>hul ⟨t,ht,j,c,h,.inl e⟩
    have h10:j≠10:=fun e=>hul ⟨t,ht,j,c,h,.inr e⟩
    simp only[List.mem_cons,List.not_mem_nil,or_false]
    omega)
  have:CS [0,1,2,3,4,5,6,7,8,11,12,13]=9:=by decide
  omega
theorem AO{D:List (It×Bool)}{t:It×Bool}(ht:t∈D){j c:Nat}(hj:j<14)(h0:j≠0)(htc:t.1=.cls j true c){S:RL}(hS:bg (US D) S):S.length<=400:=by
 obtain⟨E,hE⟩:∃E,E=gK S:=⟨_,rfl⟩
 have hlen:S.length=E.length:=by rw[hE];simp[gK]
 have hap:lD E:=by rw[hE];exact kp hS.1
 have s1:=kS E (fun e=>decide (1<=e))
 have l1:(E.filter fun e=>!decide (1<=e)).length<=1:=by
  have:=jm (A:=E.filter fun e=>!decide (1<=e)) (B:=[0]) (List.Pairwise.filter _ (iT hap)) fun x hx=>by
   obtain⟨h1,h2⟩:=List.mem_filter.1 hx
   have:=ug hS (by rw[<- hE];exact h1)
   simp at h2 |-
   omega
  simpa using this
 have l2:((E.filter fun e=>decide (1<=e)).map fun e=>e - 1).length<=room (ke j):=by
  refine l6 ?_ ?_
  ·refine List.pairwise_map.2 (List.Pairwise.imp ?_ (List.Pairwise.filter _ hap))
   intro a b h
   omega
  ·intro x hx
   obtain⟨e,he,rfl⟩:=List.mem_map.1 hx
   obtain⟨h1,h2⟩:=List.mem_filter.1 he
   have h2:1<=e:=by simpa using h2
   obtain⟨h3,h4,h5,h6⟩:=ug hS (by rw[<- hE];exact h1)
   have h7:=h6 h2
   unfold US at h7
   rw[List.any_eq_false]at h7
   have h8:=h7 t ht
   cases hh:ins (ke j) (e - 1)with
   |true=>exact(gS _ _).1 hh
   |false=>
    exfalso
    apply h8
    refine D6 (by omega) (by omega) ?_
    rw[htc]
    simp[It.set,hh]
 rw[List.length_map]at l2
 have l3:=List.all_eq_true.1 EI j (List.mem_range.2 hj)
 simp only[Bool.or_eq_true,decide_eq_true_eq]at l3
 omega
theorem nY{D:List (It×Bool)}(hD:∀t∈D,t.1.ok)(hc:oB D<=299):bC (US D)=false:=by
 refine Kz fun S hS=>?_
 by_cases h:∃t∈D,∃j c,t.1=.cls j true c/\j≠0
 ·obtain ⟨t,ht,j,c,htc,hj⟩:=h
  have:=hD t ht
  rw[htc]at this
  exact AO ht this.1 hj htc hS
 ·exact yA hD (fun t ht j c htc=>by
   by_cases hj:j=0
   ·exact hj
   ·exact absurd ⟨t,ht,j,c,htc,hj⟩ h) hc hS
end Go.Proofs.YtklbbbldalmnbaaGreatDoor.Br
