import Derived.Test.YtklbbbldalmnbaaGreatDoorMM
set_option maxHeartbeats 8000000
set_option linter.unusedVariables false
set_option maxRecDepth 100000
open Go.Proofs.Tryz
namespace Go.Proofs.YtklbbbldalmnbaaGreatDoor.Pa
open Go.RowKit
open TR (Tr NV aL cz aG aV bS)
open TK (Mv bJ)
open Br (BE PS aw bC ez bI OR bm)
variable {w w' : World} {g : Nat} {v : Value} {l : List Int} {d : Int} {s s' : St} {nv av : Value}
theorem ct.snoc{W W1 W2:World}{lo:Nat}{kv v':Value}{ps:List Pc}{n:NV}{t:Tr}{a b:Nat}(hp:ct W lo a kv ps)(hlo:lo<=a)(hab:a<=b)(hb:b<=W1.heap.size)(hk:br lo a W W1)(hn:bG W1 a b n t)(hg:W1.grownBy W2 kv.ownBlock)(ho:W2.ownsRow lo 25 8 v' (ps.length+1) (bu ps++oy n))(hat:v'.ownBlock=kv.ownBlock\/∃k,v'.ownBlock=some k/\b<=k):ct W2 lo W2.heap.size v' (ps++[⟨n,t,a,b⟩]):=by
 have hrow:=hp.row
 have hkb:∀k,kv.ownBlock=some k->k<a:=fun k hk=>(hrow.top k hk).1
 have hsz:=hg.size
 have hbl:∀k,k<W1.heap.size->kv.ownBlock≠some k->W2.heap[k]? =W1.heap[k]? :=fun k h1 h2=>hg.block k h1 (fun e=>h2 e.symm)
 refine⟨⟨?_,fun k hk'=>?_,fun p hp'=>?_,?_⟩,fun p hp'=>?_⟩
 ·rw [eQ,lT,List.length_append]
  exact ho
 ·have hlt:=(ho.lt k hk').2
  refine⟨hlt,fun p hp'=>?_⟩
  rcases hat with e|⟨k',e,hk2⟩
  ·rw [e]at hk'
   rcases List.mem_append.1 hp' with h1|h1
   ·exact(hrow.top k hk').2 p h1
   ·rw [List.mem_singleton]at h1
    subst h1
    exact .inl (hkb k hk')
  ·rw [e]at hk'
   cases hk'
   rcases List.mem_append.1 hp' with h1|h1
   ·exact .inr (by have:=(hrow.kV p h1).2.2;omega)
   ·rw [List.mem_singleton]at h1
    subst h1
    exact .inr hk2
 ·rcases List.mem_append.1 hp' with h1|h1
  ·have :=hrow.kV p h1
   exact⟨this.1,this.2.1,by omega⟩
  ·rw [List.mem_singleton]at h1
   subst h1
   exact⟨hlo,hab,by show b<=_;omega⟩
 ·rw [List.pairwise_append]
  refine⟨hrow.par,List.pairwise_singleton _ _,fun x hx y hy=>?_⟩
  rw[List.mem_singleton]at hy
  subst hy
  exact(hrow.kV x hx).2.2
 ·rcases List.mem_append.1 hp' with h1|h1
  ·have hr:=hrow.kV p h1
   refine((hp.all p h1).ar (hk.sub hr.1 hr.2.2)).ar (br.bz fun k h2 h3=>hbl k (by omega) fun e=>?_)
   rcases(hrow.top k e).2 p h1 with h4|h4<;>omega
  ·rw [List.mem_singleton]at h1
   subst h1
   refine hn.ar (br.bz fun k h2 h3=>hbl k (by have:k<b:=h3;omega) fun e=>?_)
   have:=hkb k e
   have:a<=k:=h2
   omega
theorem xy{W W1:World}{B k n:Nat}{u:Value}{xs:List Value}(h:W.ownsRow B 25 k u n xs)(hg:g<B)(hs:Step g W W1):W1.ownsRow B 25 k u n xs:=by
 refine⟨h.1,?_⟩
 rcases h.2 with h2|⟨b,cap,cur,rfl,h3,hb,h4⟩
 ·exact .inl h2
 ·exact .inr ⟨b,cap,cur,rfl,h3,hs.lh (by omega) hb (by decide) (by decide),h4⟩
theorem gy{rec:Rd}{n:Nat}{ps:List Tr}(he:lC l s=false):dd d l rec (n+1) ps s=match cN d l rec s with
   | .error e=>.error e
   | .ok (t,s1)=>dd d l rec n (ps++[t]) s1:=by
 conv=>lhs;unfold dd
 rw[if_neg (by rw[he];simp)]
 rfl
theorem ew{rec:Rd}{n:Nat}{ps:List Tr}(he:lC l s=true):dd d l rec n ps s=.ok (ps,s):=by
 cases n with
 |zero=>rfl
 |succ n=>unfold dd;rw[if_pos he]
theorem RB.grown{W W1:World}{B k n:Nat}{u:Value}{xs:List Value}(h:RB W g v l d s nv av)(hgB:g<B)(ho:W.ownsRow B 25 k u n xs)(hg:W.grownBy W1 u.ownBlock):RB W1 g v l d s nv av:=by
 rcases ho.2 with⟨rfl,_⟩|⟨b,cap,cur,rfl,h3,hb,_⟩
 ·exact h.ar ⟨hg.os,hg.tape,hg.output,hg.size,fun k hk=>hg.block k hk (by simp[Value.ownBlock])⟩
 ·exact h.jz (N:=b) (by omega) hb (by decide) (by decide) ⟨hg.os,hg.tape,hg.output,hg.size,fun k hk hne=>hg.block k hk (fun e=>hne (Option.some.inj e))⟩
theorem Step.grown{w0 W W1:World}{B k n:Nat}{u:Value}{xs:List Value}(h:Step g w0 W)(hB:w0.heap.size<=B)(hgw:g<w0.heap.size)(ho:W.ownsRow B 25 k u n xs)(hg:W.grownBy W1 u.ownBlock):Step g w0 W1:=by
 rcases ho.2 with⟨rfl,_⟩|⟨b,cap,cur,rfl,h3,hb,_⟩
 ·refine h.trans (Step.ae ⟨hg.os,hg.tape,hg.output,hg.size,fun k hk=>hg.block k hk (by simp[Value.ownBlock])⟩ (by have:=h.size;omega))
 ·exact h.jz (N:=b) (by omega) hgw ⟨hg.os,hg.tape,hg.output,hg.size,fun k hk hne=>hg.block k hk (fun e=>hne (Option.some.inj e))⟩
theorem rP{rec:Rd}(h:RB w g v l d s nv av)(hi:ep l s)(hrec:s.deep≠20->gL g v l d (s.deep+1) rec)(hrg:gJ l (s.deep+1) rec):Calls prog 66 #[.pointer (some ⟨g,0,none⟩)] w fun e w'=>j8 (cr d l rec s) g v l d w e w':=by
 have hgw:=h.lt
 have hpe:=h.pe
 have hsm:=h.small
 obtain⟨i0,hi0,hz0,hz1,hz2⟩:=info_parts nA
 obtain⟨w1,hw1⟩:∃w1,w1=w.alloc (aG aJ):=⟨_,rfl⟩
 have hb1:Below w.heap.size w w1:=by rw[hw1];exact(J _ w).alloc (U _) _
 have hN1:w1.heap[w.heap.size]? =some (aG aJ):=by rw[hw1];exact TK.aj _ _
 have HR1:=I (h.ar hb1)
 have HS1:Hid (Step g w w1):=Step.ae hb1 hgw
 have HN1:=I hN1
 obtain⟨A,hAe⟩:∃A,A=w1.heap.size:=⟨_,rfl⟩
 obtain⟨N,hNe⟩:∃N,N=w.heap.size:=⟨_,rfl⟩
 have HNe:=I hNe
 have hNA:N<A:=by rw[hAe,hNe];exact TR.lt_of_block hN1
 have hgN:g<N:=by omega
 have HAe:=I hAe
 have HI:=I hi
 have HREC:=I hrec
 have HRG:=I hrg
 have HPE:=I hpe
 simp only[aG,aJ]at hw1
 have HE:Hid (cr d l rec s=match dd d l rec (l.length+1) [] s with
  | .error e=>.error e
  | .ok (ps,s1)=>.ok (gU ps,s1)):=by show _=_;unfold cr;rfl
 clear h hb1 hN1 hi hrec hrg hpe
 go_enter func66,ntmps66
 go_upto_region 2 with fail
 rw[<- hw1]
 rw[<- hNe]at HN1 |-
 clear hw1 hNe hAe
 go_loopw [3] (fun kv wr=>∃(ps:List Pc) (s1:St) (nv1 av1:Value) (m a:Nat),dd d l rec (l.length+1) [] s=dd d l rec m (ps.map Pc.tr) s1/\l.length+1 - s1.pos<=m/\oH l s (ps.map Pc.tr) s1/\A<=a/\a<=wr.heap.size/\ct wr A a kv ps/\RB wr g v l d s1 nv1 av1/\Step g w wr/\wr.heap[N]? =some (aG aJ)/\wr.cell? ⟨g,10,none⟩=some (.int .i64 (s1.pos:Nat))) (fun _ wr=>l.length - (match wr.cell? ⟨g,10,none⟩with|some u=>(intOf u).toNat|none=>0))
 case atStart=>exact⟨[],s,nv,av,l.length+1,A,rfl,by omega,se HI.o,U _,by rw[HAe.o];exact U _,ct.nil _ _ _,HR1.o,HS1.o,HN1.o,HR1.o.rd.2.2.1⟩
 case round=>
  obtain⟨ps,s1,nv1,av1,m,a,hEq,hm,hgd,hAa,haw,hps,hrr,hsr,hNr,hc10⟩:=hrel
  obtain⟨wq,hwq⟩:∃wq,wq=wr:=⟨_,rfl⟩
  subst hwq
  have HEq:=I hEq
  have HM:=I hm
  have HGd:=I hgd
  have HAa:=I hAa
  have HAw:=I haw
  have HPs:=I hps
  have HRr:=I hrr
  have HSr:=I hsr
  have HNr:=I hNr
  have HC10:=I hc10
  have hplen:ps.length<=300:=by have h1:=hgd.len;have h2:=hgd.inv.inv.pos;rw[List.length_map]at h1;omega
  have HBE:=I (oS hrr)
  obtain⟨ko,kc,hkv⟩:=ax hps.row.own
  obtain⟨kn,hkn⟩:∃kn,kn=ps.length:=⟨_,rfl⟩
  rw[<- hkn]at hkv hplen
  have HKn:=I hkn
  obtain⟨en,hen⟩:∃en,en=lC l s1:=⟨_,rfl⟩
  rw[show (decide (s1.pos=l.length)||decide (s1.tok.kind=9)||decide (s1.tok.kind=8))=en from hen.symm]at HBE
  have HEn:=I hen
  rw[hkv]at HPs |-
  clear hEq hm hgd hAa haw hps hrr hsr hNr hkv hkn hen hc10
  cases en with
  |false=>
   go_wp2_with fail
   refine HBE.o.mono ?_
   rintro e wd ⟨rfl,q,rfl⟩
   have hrd:=HRr.o.drewN q
   have hbd:Below wq.heap.size wq (wq.drewN q):=⟨rfl,rfl,rfl,U _,fun _ _=>rfl⟩
   have hlt1:s1.pos<l.length:=by
    have h1:=HGd.o.inv.inv.pos
    have h2:s1.pos≠l.length:=fun e=>by have h3:=HEn.o;unfold lC at h3;rw[show decide (s1.pos=l.length)=true by simp[e]]at h3;simp at h3
    omega
   have HX:=I (DB hrd HGd.o.inv hlt1 (by rw[HGd.o.deep];exact HREC.o) (by rw[HGd.o.deep];exact HRG.o))
   have HPI:=I (fun t s'=>nR (t:=t) (s':=s') HPE.o (s:=s1) (by rw[HGd.o.deep];exact HRG.o) HGd.o.inv hlt1)
   obtain⟨wd,hwd⟩:∃wd,wd=wq.drewN q:=⟨_,rfl⟩
   have HSzd:Hid (wd.heap.size=wq.heap.size):=by show _=_;rw[hwd];rfl
   rw[<- hwd]at HX hrd hbd |-
   have HRd:=I hrd
   have HBd:=I hbd
   have HLt1:=I hlt1
   clear hwd hrd hbd HBE hlt1
   go_wp2_with fail
   refine HX.o.mono ?_
   rintro e w3 (⟨t,s3,n,nv3,av3,hR,rfl,hni,hr3,hst⟩|⟨z,az,hR,rfl,hst⟩)
   ·obtain ⟨hgo,hlt3⟩:=HPI.o _ _ hR
    obtain⟨m',hm'⟩:∃m',m=m'+1:=⟨m - 1,by have:=HM.o;have:=HLt1.o;omega⟩
    have HEq3:Hid (dd d l rec (l.length+1) [] s=dd d l rec m' (ps.map Pc.tr++[t]) s3):=by
     show _=_
     rw[HEq.o,hm',gy HEn.o.symm,hR]
    have HGd3:=I (HGd.o.snoc hgo hlt3)
    have HM3:Hid (l.length+1 - s3.pos<=m'):=by have:=HM.o;show _<=_;omega
    have hs0:Step g wq w3:=(Step.ae (g:=g) HBd.o HRr.o.lt).trans hst
    have hsz:wq.heap.size<=wd.heap.size:=HBd.o.size
    have hown:=xy (g:=g) HPs.o.row.own (by have:=HNe.o;omega) hs0
    have hN3:=hs0.lh hgN HNr.o (by decide) (by decide)
    have hAw3:A<=w3.heap.size:=by have:=hs0.size;have:=HAa.o;have:=HAw.o;omega
    have HOw:Hid (w3.ownsRow A 25 8 (.slice ko kn kc) ps.length (bu ps)):=hown
    rw[<- HKn.o]at HOw
    have HKI':Hid (br A wd.heap.size wq w3):=hs0.H7 (by have:=HNe.o;omega) (by rw[HSzd.o];exact U _)
    have HNI:=I hni
    have HR3:=I hr3
    have HS3:=I (HSr.o.trans hs0)
    have HN3:=I hN3
    have HAd:Hid (a<=wd.heap.size):=Nat.le_trans HAw.o hsz
    have HSz3:Hid (wd.heap.size<=w3.heap.size):=hst.size
    have HLt3:=I hlt3
    clear hR hgo hs0 hsz hown hN3 hni hr3 hst HX HPI HBd HRd hm' hlt3
    go_wp2_with (at_builtin;refine wpList_append_own_at _ rfl _ _ 23 rfl A 25 i0 (.agg #[.int .i64 0,.slice none 0 0,.slice none 0 0,.int .i64 0,.int .i64 0,.int .i64 0,.int .i64 0,.bool false]) 8 96 underlying23 hi0 hz0 hz1 hz2 rfl (by decide) _ _ _ rfl (HOw.o.alloc _) ⟨w3.heap.size,0,none⟩ 1 1 (oy n) rfl rfl (iQ w3 n) (mS n) (by unfold maxLen;omega) (by omega) (by simp;omega) ?_)
    intro v' w4 hown' hgrow _ hat
    have hb3:Below w3.heap.size w3 (w3.alloc (aG n)):=(J _ w3).alloc (U _) _
    have hni4:=HNI.o.ar (br.ae hb3 (U _))
    have hown4:w4.ownsRow A 25 8 v' (ps.length+1) (bu ps++oy n):=by rw[<- HKn.o];exact hown'
    have HPs4:Hid (ct w4 A w4.heap.size v' (ps++[⟨n,t,wd.heap.size,w3.heap.size⟩])):=by
     refine ct.snoc (W:=wq) (W1:=w3.alloc (aG n)) (HPs.o.wide (U _) HAd.o) (by have:=HAa.o;have:=HAd.o;omega) HSz3.o (by simp) ?_ hni4 hgrow hown4 ?_
     ·exact br.trans (fun k h1 h2 cs e he hc=>HKI'.o k h1 h2 cs e he hc) (br.ae hb3 HSz3.o)
     ·rcases hat with e|e
      ·exact .inl e
      ·exact .inr ⟨_,e,by simp⟩
    have HR4:Hid (RB w4 g v l d s3 nv3 av3):=(HR3.o.ar hb3).grown (B:=A) (by have:=HNe.o;omega) (HOw.o.alloc _) hgrow
    have HS4:Hid (Step g w w4):=(HS3.o.trans (Step.ae (g:=g) hb3 HR3.o.lt)).grown (B:=A) (by have:=HNe.o;omega) hgw (HOw.o.alloc _) hgrow
    have HN4:Hid (w4.heap[N]? =some (aG aJ)):=gb hgrow hNA HOw.o (TK.ba HN3.o)
    have HC4:=I HR4.o.rd.2.2.1
    have HSz4:Hid (w3.heap.size<=w4.heap.size):=by have:=hgrow.size;simp at this;show _<=_;omega
    obtain⟨vo,vc,hv4⟩:=ax hown'
    rw[hv4]at HPs4 |-
    clear hown' hgrow hv4 hat hni4 hown4 hb3
    go_wp2
    go_roundw
    case rel=>exact⟨_,s3,nv3,av3,m',w4.heap.size,by rw[List.map_append];exact HEq3.o,HM3.o,by rw[List.map_append];exact HGd3.o,by have h9:=HAa.o;have h8:=HAd.o;have h7:=HSz3.o;have h6:=HSz4.o;omega,U _,HPs4.o,HR4.o,HS4.o,HN4.o,HC4.o⟩
    case measure=>
     rw[HC4.o,HC10.o]
     simp only[intOf]
     have h1:=HLt3.o
     have h2:=HLt1.o
     simp
     omega
   ·have hE2:Hid (cr d l rec s=.error (z,az)):=by
     obtain⟨m',hm'⟩:∃m',m=m'+1:=⟨m - 1,by have:=HM.o;have:=HLt1.o;omega⟩
     show _=_
     rw[HE.o,HEq.o,hm',gy HEn.o.symm,hR]
    have HS3:=I (HSr.o.trans ((Step.ae (g:=g) HBd.o HRr.o.lt).trans hst))
    clear hR hst HX HPI
    simp only[aw]
    go_wp2
    exact⟨rfl,.inr ⟨z,az,hE2.o,rfl,HS3.o⟩⟩
  |true=>
   have hE2:Hid (cr d l rec s=.ok (gU (ps.map Pc.tr),s1)):=by show _=_;rw[HE.o,HEq.o,ew HEn.o.symm]
   go_wp2_with fail
   refine HBE.o.mono ?_
   rintro e wd ⟨rfl,q,rfl⟩
   have hrd:=HRr.o.drewN q
   have hbd:Below wq.heap.size wq (wq.drewN q):=⟨rfl,rfl,rfl,U _,fun _ _=>rfl⟩
   obtain⟨wd,hwd⟩:∃wd,wd=wq.drewN q:=⟨_,rfl⟩
   rw[<- hwd]at hrd hbd |-
   have hpd:=HPs.o.ar (br.ae hbd HAw.o)
   have hN3:wd.heap[N]? =some (aG aJ):=by rw[hbd.block N (TR.lt_of_block HNr.o)];exact HNr.o
   have HX:=I (Ip hpd (Nat.le_trans HAw.o hbd.size) (by have:=HAa.o;have:=HAw.o;have:=hbd.size;omega) (by rw[<- HKn.o];omega) (by have h1:=HGd.o.kids;have h2:=HGd.o.inv.inv.pos;omega))
   have HRd:=I hrd
   have HSd:=I (HSr.o.trans (Step.ae (g:=g) hbd HRr.o.lt))
   have HNd:=I hN3
   have HAw2:Hid (A<=wd.heap.size):=by have:=HAa.o;have:=HAw.o;have:=hbd.size;show _<=_;omega
   clear hwd hrd hbd HBE hpd hN3
   go_wp2_with fail
   refine HX.o.mono ?_
   rintro e w3 ⟨n,rfl,hni,hb3⟩
   have hN3:w3.heap[N]? =some (aG aJ):=by rw[hb3.block N (TR.lt_of_block HNd.o)];exact HNd.o
   obtain⟨z0,z1,z2,z3,z4,z5,z6,z7⟩:=aU hN3
   have zf:=bH hN3
   have HN3:=I hN3
   have HNI:=I hni
   have HR3:=I (HRd.o.ar hb3)
   have HS3:=I (HSd.o.trans (Step.ae (g:=g) hb3 HRd.o.lt))
   clear hN3 hni hb3 HX
   go_wp21
   obtain⟨W4,hW4⟩:∃W4,W4=setNode w3 N n:=⟨_,rfl⟩
   have hN4:W4.heap[N]? =some (aG n):=by rw[hW4];exact bM HN3.o _
   have hm4:Mv N w3 W4:=by rw[hW4];exact bN (Mv.refl N w3) _
   simp only[setNode]at hW4
   rw[<- hW4]
   clear hW4
   refine cH (N:=N) results66 rfl (TR.ak hN4) (.inl ⟨_,_,_,nv1,av1,hE2.o,rfl,?_,HR3.o.jz hgN HN3.o (by decide) (by decide) hm4,HS3.o.jz (by have:=HNe.o;omega) hgw hm4⟩)
   have e1:=HNe.o
   have e3:=hm4.size
   exact(HNI.o.ar (br.bz fun k h1 h2=>hm4.block k (by omega) (by omega))).wide (by omega) (by omega)
variable {w w' : World} {g : Nat} {v : Value} {l : List Int} {d : Int} {s s' : St} {nv av : Value}
theorem sW{rec:Rd}{n:Nat}{bs:List Tr}(he:s.tok.kind=9):cV d l rec (n+1) bs s=match dH d l s with
   | .error e=>.error e
   | .ok s1=>match cr d l rec s1 with
    | .error e=>.error e
    | .ok (t,s2)=>cV d l rec n (bs++[t]) s2:=by
 conv=>lhs;unfold cV
 rw[if_pos he]
 rfl
theorem od{rec:Rd}{n:Nat}{bs:List Tr}(he:s.tok.kind≠9):cV d l rec n bs s=.ok (bs,s):=by
 cases n with
 |zero=>rfl
 |succ n=>unfold cV;rw[if_neg he]
theorem lP{lo hi:Nat}{ps:List Pc}(hp:ct w lo hi v ps)(hhi:hi<=w.heap.size)(hlo:lo<=w.heap.size)(hps:ps.length<=1000000)(hlen:(ud (ps.map Pc.tr)).length<=1000000)(h1:1<=ps.length):Calls prog 67 #[v] w fun e w'=>∃n',e=.returned (cz n')/\bG w' lo w'.heap.size n' (eX (ps.map Pc.tr))/\Below w.heap.size w w':=by
 by_cases h2:2<=ps.length
 ·exact A3 hp hhi hlo hps hlen h2
 ·obtain ⟨p,rfl⟩:=List.length_eq_one_iff.1 (show ps.length=1 by omega)
  exact xH hp hhi hlo
theorem u9{rec:Rd}(fo:Bool)(h:RB w g v l d s nv av)(hi:ep l s)(hrec:s.deep≠20->gL g v l d (s.deep+1) rec)(hrg:gJ l (s.deep+1) rec):Calls prog 48 #[.pointer (some ⟨g,0,none⟩),.bool fo] w fun e w'=>j8 (bR d l rec fo s) g v l d w e w':=by
 have hgw:=h.lt
 have hpe:=h.pe
 have hsm:=h.small
 obtain⟨i0,hi0,hz0,hz1,hz2⟩:=info_parts nA
 have c12:=h.rd.2.2.2.2.1
 have f12:=h.fr 12
 obtain⟨w1,hw1⟩:∃w1,w1=w.alloc (aG aJ):=⟨_,rfl⟩
 have hb1:Below w.heap.size w w1:=by rw[hw1];exact(J _ w).alloc (U _) _
 have hN1:w1.heap[w.heap.size]? =some (aG aJ):=by rw[hw1];exact TK.aj _ _
 have hr1:=h.ar hb1
 have d12:=hr1.rd.2.2.2.2.1
 have df12:=hr1.fr 12
 have hgw1:=hr1.lt
 obtain⟨w2,hw2⟩:∃w2,w2=w1.setCell ⟨g,12,none⟩ (.bool fo):=⟨_,rfl⟩
 have hm2:Mv g w1 w2:=by rw[hw2];exact(Mv.refl g w1).setCell 12 _
 have HR2:Hid (RB w2 g v l d { s with aD:=fo } nv av):=by show RB _ _ _ _ _ _ _ _;rw[hw2];exact hr1.set 12 _ rfl rfl rfl
 have HN2:Hid (w2.heap[w.heap.size]? =some (aG aJ)):=aY hm2 hN1 (by omega)
 have HS2:Hid (Step g w w2):=(Step.ae hb1 hgw).trans (Step.dc hm2 hr1.lt)
 obtain⟨A,hAe⟩:∃A,A=w2.heap.size:=⟨_,rfl⟩
 obtain⟨N,hNe⟩:∃N,N=w.heap.size:=⟨_,rfl⟩
 have HNe:=I hNe
 have hNA:N<A:=by rw[hAe,hNe];exact TR.lt_of_block HN2.o
 have hgN:g<N:=by omega
 have HAe:=I hAe
 have HI2:=I (iG hi fo)
 have HREC:=I hrec
 have HRG:=I hrg
 have HPE:=I hpe
 obtain⟨fo0,hfo0⟩:∃fo0,fo0=s.aD:=⟨_,rfl⟩
 rw[<- hfo0]at c12 d12
 have HFO:=I hfo0
 simp only[aG,aJ]at hw1
 have HE:Hid (bR d l rec fo s=match cr d l rec { s with aD:=fo } with
  | .error e=>.error e
  | .ok (t,s1)=>match cV d l rec (l.length+1) [t] s1 with
   | .error e=>.error e
   | .ok (bs,s2)=>.ok (eX bs,{ s2 with aD:=fo0 })):=by show _=_;rw[hfo0];unfold bR;rfl
 have HX:=I (rP (s:={ s with aD:=fo }) HR2.o HI2.o hrec hrg)
 have HBI:=I (fun t s'=>fY (t:=t) (s':=s') hpe (s:={ s with aD:=fo }) hrg HI2.o)
 clear h hb1 hN1 hr1 hi hrec hrg hpe hm2 hfo0 c12 f12
 go_enter func48,ntmps48
 go_upto_region 1 with fail
 rw[<- hw1]
 clear hw1
 go_upto_region 3 with fail
 rw[<- hw2]
 rw[<- hNe]at HN2 |-
 clear hw2 hNe hAe d12 df12
 go_wp2_with fail
 refine HX.o.mono ?_
 rintro e w3 (⟨t,s3,n,nv3,av3,hR,rfl,hni,hr3,hst⟩|⟨z,az,hR,rfl,hst⟩)
 case inr=>
  have hE2:Hid (bR d l rec fo s=.error (z,az)):=by show _=_;rw[HE.o,hR]
  have HS3:=I (HS2.o.trans hst)
  clear hst hR HX
  simp only[aw]
  go_wp2
  exact⟨rfl,.inr ⟨z,az,hE2.o,rfl,HS3.o⟩⟩
 have hgo:=HBI.o _ _ hR
 have HE3:Hid (bR d l rec fo s=match cV d l rec (l.length+1) [t] s3 with
   | .error e=>.error e
   | .ok (bs,s2)=>.ok (eX bs,{ s2 with aD:=fo0 })):=by show _=_;rw[HE.o,hR]
 have hN3:=hst.lh hgN HN2.o (by decide) (by decide)
 obtain⟨w4,hw4⟩:∃w4,w4=w3.alloc (aG n):=⟨_,rfl⟩
 obtain⟨R,hRe⟩:∃R,R=w3.heap.size:=⟨_,rfl⟩
 have hb4:Below w3.heap.size w3 w4:=by rw[hw4];exact(J _ w3).alloc (U _) _
 have hR4:w4.heap[R]? =some (aG n):=by rw[hw4,hRe];exact TK.aj _ _
 have HN4:Hid (w4.heap[N]? =some (aG aJ)):=by show _=_;rw[hb4.block N (TR.lt_of_block hN3)];exact hN3
 have HR4:=I (hr3.ar hb4)
 have HS4:=I ((HS2.o.trans hst).trans (Step.ae (g:=g) hb4 hr3.lt))
 have HPs0:Hid (ct w4 A w4.heap.size (.slice (some ⟨R,0,none⟩) 1 1) [⟨n,t,A,R⟩]):=by
  have hnk:=hni.ar (br.ae hb4 (U _))
  rw[<- HAe.o, <-hRe]at hnk
  exact ct.single hnk (by rw[HAe.o,hRe];exact hst.size) (U _) hR4 (U _) (TR.lt_of_block hR4)
 have HA4:Hid (A<=w4.heap.size):=by rw[HAe.o];exact Nat.le_trans hst.size hb4.size
 have HGB0:=I (rN hgo)
 simp only[aG]at hw4
 clear hR hgo hN3 hb4 hR4 hni hr3 hst HX HBI HE
 go_upto_region 4 with fail
 rw[<- hw4, <-hRe]
 clear hw4 hRe
 go_loopw [6] (fun kv wr=>∃(ps:List Pc) (s1:St) (nv1 av1:Value) (m:Nat),cV d l rec (l.length+1) [t] s3=cV d l rec m (ps.map Pc.tr) s1/\l.length+1 - s1.pos<=m/\lJ l { s with aD:=fo } (ps.map Pc.tr) s1/\1<=ps.length/\A<=wr.heap.size/\ct wr A wr.heap.size kv ps/\RB wr g v l d s1 nv1 av1/\Step g w wr/\wr.heap[N]? =some (aG aJ)/\wr.cell? ⟨g,10,none⟩=some (.int .i64 (s1.pos:Nat))) (fun _ wr=>l.length - (match wr.cell? ⟨g,10,none⟩with|some u=>(intOf u).toNat|none=>0))
 case atStart=>exact⟨[⟨n,t,A,R⟩],s3,nv3,av3,l.length+1,rfl,by omega,HGB0.o,by simp,HA4.o,HPs0.o,HR4.o,HS4.o,HN4.o,HR4.o.rd.2.2.1⟩
 case round=>
  obtain⟨ps,s1,nv1,av1,m,hEq,hm,hgd,hps1,hAw,hps,hrr,hsr,hNr,hc10⟩:=hrel
  obtain⟨wq,hwq⟩:∃wq,wq=wr:=⟨_,rfl⟩
  subst hwq
  have HEq:=I hEq
  have HM:=I hm
  have HGd:=I hgd
  have HPs1:=I hps1
  have HAw:=I hAw
  have HPs:=I hps
  have HRr:=I hrr
  have HSr:=I hsr
  have HNr:=I hNr
  have HC10:=I hc10
  have hplen:ps.length<=301:=by have h1:=hgd.len;have h2:=hgd.inv.inv.pos;rw[List.length_map]at h1;omega
  obtain⟨ko,kc,hkv⟩:=ax hps.row.own
  obtain⟨kn,hkn⟩:∃kn,kn=ps.length:=⟨_,rfl⟩
  rw[<- hkn]at hkv hplen
  have HKn:=I hkn
  have c2:=hrr.tk.1
  rw[hkv]at HPs |-
  clear hEq hm hgd hps1 hAw hps hsr hNr hkv hkn hc10
  by_cases k9:s1.tok.kind=9
  ·rw [k9]at c2
   have HAV:=I (dq hrr HGd.o.inv.yw.next)
   have hlt1:s1.pos<l.length:=by
    rcases Nat.lt_or_ge s1.pos l.length with h5|h5
    ·exact h5
    ·have :=HGd.o.inv.inv.off (by have:=HGd.o.inv.inv.pos;omega)
     rw[this]at k9
     exact absurd k9 (by decide)
   have HLt1:=I hlt1
   have HLn:Hid (s1.pos<s1.next):=(HGd.o.inv.inv.on hlt1).1
   obtain⟨m',hm'⟩:∃m',m=m'+1:=⟨m - 1,by have:=HM.o;omega⟩
   have HEq1:Hid (cV d l rec (l.length+1) [t] s3=match dH d l s1 with
    | .error e=>.error e
    | .ok s1=>match cr d l rec s1 with
     | .error e=>.error e
     | .ok (t,s2)=>cV d l rec m' (ps.map Pc.tr++[t]) s2):=by show _=_;rw[HEq.o,hm',sW k9]
   have HM':Hid (m=m'+1):=hm'
   have HAI:=I (fun s4=>eF (d:=d) (s':=s4) HPE.o HGd.o.inv.yw)
   clear hrr hlt1 hm' k9
   go_wp2_with fail
   refine HAV.o.mono ?_
   rintro e w5 (⟨s4,hR4,rfl,hr5,hm5⟩|⟨z,az,hR4,rfl,hm5⟩)
   case inr=>
    have hE2:Hid (bR d l rec fo s=.error (z,az)):=by show _=_;rw[HE3.o,HEq1.o];simp only[hR4]
    have HS3:=I (HSr.o.trans (Step.dc hm5 HRr.o.lt))
    clear hm5 hR4 HAV HAI c2
    simp only[aw]
    go_wp2
    exact⟨rfl,.inr ⟨z,az,hE2.o,rfl,HS3.o⟩⟩
   obtain⟨i4,p4,f4,d4, -⟩:=HAI.o s4 hR4
   have hd4:s4.deep=s.deep:=d4.trans HGd.o.deep
   have HX:=I (rP hr5 i4 (by rw[hd4];exact HREC.o) (by rw[hd4];exact HRG.o))
   have HBI:=I (fun t s'=>fY (t:=t) (s':=s') HPE.o (s:=s4) (by rw[hd4];exact HRG.o) i4)
   have HEq2:Hid (cV d l rec (l.length+1) [t] s3=match cr d l rec s4 with
     | .error e=>.error e
     | .ok (t,s2)=>cV d l rec m' (ps.map Pc.tr++[t]) s2):=by show _=_;rw[HEq1.o];simp only[hR4]
   have HR5:=I hr5
   have hs5:Step g wq w5:=Step.dc hm5 HRr.o.lt
   have HS5q:=I hs5
   have HP4:=I p4
   have HD4:=I d4
   clear hR4 i4 p4 f4 d4 hd4 hr5 hm5 hs5 HAV HAI c2 HEq1
   go_wp2_with fail
   refine HX.o.mono ?_
   rintro e w6 (⟨t6,s6,n6,nv6,av6,hR,rfl,hni,hr6,hst⟩|⟨z,az,hR,rfl,hst⟩)
   case inr=>
    have hE2:Hid (bR d l rec fo s=.error (z,az)):=by show _=_;rw[HE3.o,HEq2.o,hR]
    have HS3:=I (HSr.o.trans (HS5q.o.trans hst))
    clear hst hR HX HBI
    simp only[aw]
    go_wp2
    exact⟨rfl,.inr ⟨z,az,hE2.o,rfl,HS3.o⟩⟩
   have hgo:=HBI.o _ _ hR
   have HEq3:Hid (cV d l rec (l.length+1) [t] s3=cV d l rec m' (ps.map Pc.tr++[t6]) s6):=by show _=_;rw[HEq2.o,hR]
   have HGd3:Hid (lJ l { s with aD:=fo } (ps.map Pc.tr++[t6]) s6):=HGd.o.snoc (s1:=s4) (by have:=HP4.o;have:=HLn.o;omega) HD4.o hgo
   have HLt6:Hid (s1.pos<s6.pos):=by have h1:=hgo.pos;have h2:=HP4.o;have h3:=HLn.o;show _<_;omega
   have HM3:Hid (l.length+1 - s6.pos<=m'):=by have h1:=HM.o;have h2:=HM'.o;have h3:=HLt6.o;show _<=_;omega
   have hs0:Step g wq w6:=HS5q.o.trans hst
   have hown:=xy (g:=g) HPs.o.row.own (by have:=HNe.o;omega) hs0
   have hN6:=hs0.lh hgN HNr.o (by decide) (by decide)
   have hAw6:A<=w6.heap.size:=Nat.le_trans HAw.o hs0.size
   have HOw:Hid (w6.ownsRow A 25 8 (.slice ko kn kc) ps.length (bu ps)):=hown
   rw[<- HKn.o]at HOw
   have HKI':Hid (br A wq.heap.size wq w6):=hs0.H7 (by have:=HNe.o;omega) (U _)
   have HNI:=I (hni.wide HS5q.o.size (U _))
   have HR6:=I hr6
   have HS6:=I (HSr.o.trans hs0)
   have HN6:=I hN6
   have HSz6:Hid (wq.heap.size<=w6.heap.size):=hs0.size
   clear hR hgo hs0 hown hN6 hni hr6 hst HX HBI HS5q HR5
   go_wp2_with (at_builtin;refine wpList_append_own_at _ rfl _ _ 23 rfl A 25 i0 (.agg #[.int .i64 0,.slice none 0 0,.slice none 0 0,.int .i64 0,.int .i64 0,.int .i64 0,.int .i64 0,.bool false]) 8 96 underlying23 hi0 hz0 hz1 hz2 rfl (by decide) _ _ _ rfl (HOw.o.alloc _) ⟨w6.heap.size,0,none⟩ 1 1 (oy n6) rfl rfl (iQ w6 n6) (mS n6) (by unfold maxLen;omega) (by omega) (by simp;omega) ?_)
   intro v' w7 hown' hgrow _ hat
   have hb7:Below w6.heap.size w6 (w6.alloc (aG n6)):=(J _ w6).alloc (U _) _
   have hni7:=HNI.o.ar (br.ae hb7 (U _))
   have hown7:w7.ownsRow A 25 8 v' (ps.length+1) (bu ps++oy n6):=by rw[<- HKn.o];exact hown'
   have HPs7:Hid (ct w7 A w7.heap.size v' (ps++[⟨n6,t6,wq.heap.size,w6.heap.size⟩])):=by
    refine ct.snoc (W:=wq) (W1:=w6.alloc (aG n6)) HPs.o HAw.o HSz6.o (by simp) ?_ hni7 hgrow hown7 ?_
    ·exact br.trans HKI'.o (br.ae hb7 HSz6.o)
    ·rcases hat with e|e
     ·exact .inl e
     ·exact .inr ⟨_,e,by simp⟩
   have HR7:Hid (RB w7 g v l d s6 nv6 av6):=(HR6.o.ar hb7).grown (B:=A) (by have:=HNe.o;omega) (HOw.o.alloc _) hgrow
   have HS7:Hid (Step g w w7):=(HS6.o.trans (Step.ae (g:=g) hb7 HR6.o.lt)).grown (B:=A) (by have:=HNe.o;omega) hgw (HOw.o.alloc _) hgrow
   have HN7:Hid (w7.heap[N]? =some (aG aJ)):=gb hgrow hNA HOw.o (TK.ba HN6.o)
   have HC7:=I HR7.o.rd.2.2.1
   have HSz7:Hid (A<=w7.heap.size):=by have h1:=hgrow.size;simp at h1;show _<=_;omega
   obtain⟨vo,vc,hv7⟩:=ax hown'
   rw[hv7]at HPs7 |-
   clear hown' hgrow hv7 hat hni7 hown7 hb7
   go_wp2
   go_roundw
   case rel=>exact⟨_,s6,nv6,av6,m',by rw[List.map_append];exact HEq3.o,HM3.o,by rw[List.map_append];exact HGd3.o,by simp,HSz7.o,HPs7.o,HR7.o,HS7.o,HN7.o,HC7.o⟩
   case measure=>
    rw[HC7.o,HC10.o]
    simp only[intOf]
    have h1:=HLt6.o
    have h2:=HLt1.o
    simp
    omega
  ·have q9:(s1.tok.kind==9)=false:=by simpa using k9
   have hE2:Hid (bR d l rec fo s=.ok (eX (ps.map Pc.tr),{ s1 with aD:=fo0 })):=by show _=_;rw[HE3.o,HEq.o,od k9]
   have d12:=hrr.rd.2.2.2.2.1
   have df12:=hrr.fr 12
   have hgwq:=hrr.lt
   obtain⟨w5,hw5⟩:∃w5,w5=wq.setCell ⟨g,12,none⟩ (.bool fo0):=⟨_,rfl⟩
   have hm5:Mv g wq w5:=by rw[hw5];exact(Mv.refl g wq).setCell 12 _
   have hr5:RB w5 g v l d { s1 with aD:=fo0 } nv1 av1:=by rw[hw5];exact hrr.set 12 _ rfl rfl rfl
   have hN5:=aY hm5 HNr.o (by omega)
   have hpd:=(HPs.o.ar (w':=w5) (br.bz fun k h1 h2=>hm5.block k h2 (by have:=HNe.o;omega))).wide (Nat.le_refl A) hm5.size
   have hlen5:(ud (ps.map Pc.tr)).length<=1000000:=by have h1:=HGd.o.sum;have h2:=HGd.o.inv.inv.pos;have h3:(ud (ps.map Pc.tr)).length=((ps.map Pc.tr).flatMap fun t=>if t.kind=10 then t.kids else [t]).length:=rfl;omega
   have HX:=I (lP hpd (U _) (Nat.le_trans HAw.o hm5.size) (by rw[<- HKn.o];omega) hlen5 HPs1.o)
   have HR5:=I hr5
   have HS5:=I (HSr.o.trans (Step.dc hm5 hgwq))
   have HN5:=I hN5
   have HA5:Hid (A<=w5.heap.size):=Nat.le_trans HAw.o hm5.size
   clear hrr hm5 hr5 hN5 hpd hlen5 k9
   go_upto_region 8 with fail
   rw[<- hw5]
   clear hw5 d12 df12
   go_wp2_with fail
   refine HX.o.mono ?_
   rintro e w6 ⟨n6,rfl,hni,hb6⟩
   have hN6:w6.heap[N]? =some (aG aJ):=by rw[hb6.block N (TR.lt_of_block HN5.o)];exact HN5.o
   obtain⟨z0,z1,z2,z3,z4,z5,z6,z7⟩:=aU hN6
   have zf:=bH hN6
   have HN6:=I hN6
   have HNI:=I hni
   have HR6:=I (HR5.o.ar hb6)
   have HS6:=I (HS5.o.trans (Step.ae (g:=g) hb6 HR5.o.lt))
   clear hN6 hni hb6 HX
   go_wp21
   obtain⟨W4,hW4⟩:∃W4,W4=setNode w6 N n6:=⟨_,rfl⟩
   have hN4:W4.heap[N]? =some (aG n6):=by rw[hW4];exact bM HN6.o _
   have hm4:Mv N w6 W4:=by rw[hW4];exact bN (Mv.refl N w6) _
   simp only[setNode]at hW4
   rw[<- hW4]
   clear hW4
   refine cH (N:=N) results48 rfl (TR.ak hN4) (.inl ⟨_,_,_,nv1,av1,hE2.o,rfl,?_,HR6.o.jz hgN HN6.o (by decide) (by decide) hm4,HS6.o.jz (by have:=HNe.o;omega) hgw hm4⟩)
   have e1:=HNe.o
   have e3:=hm4.size
   exact(HNI.o.ar (br.bz fun k h1 h2=>hm4.block k (by omega) (by omega))).wide (by omega) (by omega)
theorem mZ:∀(n dp:Nat),dp+n=21->0<n->gL g v l d dp (bf d l n)
 |0,dp,h,hn=>absurd hn (by omega)
 |n+1,dp,h,hn=>fun w s nv av fo hr hi hd=>u9 fo hr hi (fun h20=>by rw[hd];exact mZ n (dp+1) (by omega) (by omega)) (by rw[hd];exact gj hr.pe n (dp+1))
end Go.Proofs.YtklbbbldalmnbaaGreatDoor.Pa
