import Derived.Test.YtklbbbldalmnbaaGreatDoorKD
import Derived.Laws.BytesArg
import Derived.Deep.RegionHeld3
import Derived.Deep.AppendLies
set_option maxHeartbeats 8000000
set_option maxRecDepth 100000
set_option linter.unusedVariables false
open Go.Proofs.Tryz
namespace Go.Proofs.YtklbbbldalmnbaaGreatDoor.TK
open Go.RowKit
def xE(l:List Int):List Value:=l.map (Value.int .u8)
theorem ql(a b:List Int):xE (a++b)=xE a++xE b:=by simp[xE]
theorem H4:(Tryz.prog.info? 5).map (fun i=>(i.zero,i.size,i.bytes))=some (some (.int .u8 0),1,1):=by kernel_rfl
theorem info_parts{o:Option TypeInfo}{z:Option Value}{s b:Nat}(h:o.map (fun i=>(i.zero,i.size,i.bytes))=some (z,s,b)):∃i,o=some i/\i.zero=z/\i.size=s/\i.bytes=b:=by
 cases o with
 |none=>simp at h
 |some i=>simp at h;exact⟨i,rfl,h.1,h.2.1,h.2.2⟩
theorem ax{B e:Nat}{w:World}{v:Value}{n k:Nat}{xs:List Value}(h:w.ownsRow B e k v n xs):∃ao cap,v=.slice ao n cap:=by
 rcases h.2 with⟨rfl,h0⟩|⟨g,cap,cur,rfl,_⟩
 ·exact⟨none,0,by rw[h0]⟩
 ·exact⟨_,cap,rfl⟩
theorem gD{B n:Nat}{v:Value}{w:World}{l:List Int}(hown:w.ownsRow B 5 1 v n (xE l)):(convert 59 9 v).run prog w=.ok (.string (bE l)) w:=by
 obtain⟨hl,h⟩:=hown
 rcases h with⟨rfl,rfl⟩|⟨g,cap,cur,rfl,hb,hh,hn,hm,hs,ht⟩
 ·have :l=[]:=by simpa[xE]using hl
  subst this
  exact run_convert_bytes_nil w 59 5 underlying59 underlying5 0 0 9 underlying9
 ·have hl':l.length=n:=by simpa[xE]using hl
  refine run_convert_bytes_arg w 59 5 underlying59 underlying5 g 0 n cap l hl' ?_ 9 underlying9
  intro i hi
  have:=World.ownsRow.cellAt (w:=w) (base:=B) (e:=5) (size:=1) (g:=g) (n:=n) (cap:=cap) (xs:=xE l) ⟨hl,Or.inr ⟨g,cap,cur,rfl,hb,hh,hn,hm,hs,ht⟩⟩ i (by omega)
  rw[Nat.zero_add,this]
  simp[xE,List.getD,hl',hi]
theorem RB.kq{w w':World}{b B:Nat}{x:Addr}{c:Nat}{l:List Int}{i:Nat}{d:Int}(h:RB w b x c l i d)(hb:Below B w w')(h1:b<B)(h2:x.block<B):RB w' b x c l i d:=
 ⟨by rw[hb.block b h1];exact h.box,fun j hj=>by
  rw[<- h.pat j hj]
  unfold World.cell?
  rw[hb.block _ (by rw[aS];exact h2)],h.ne,h.cap,h.small,h.at',h.dL,Nat.lt_of_lt_of_le h.xw hb.size⟩
structure vC(l:List Int)(i k:Nat):Prop where
 k1:k<=20
 k2:i+k<=l.length
 rest:bL l i=(l.drop i).take k++takeN (20 - k) (l.drop (i+k)) (k==0)
theorem qu(l:List Int)(i:Nat)(h:i<=l.length):vC l i 0:=⟨by omega,h,rfl⟩
theorem rW{l:List Int}{i k:Nat}(h:vC l i k)(h1:k<20)(h2:i+k<l.length)(h3:gw l[i+k] (k==0)=true):vC l i (k+1):=by
 refine⟨h1,by omega,?_⟩
 rw[h.rest,List.drop_eq_getElem_cons h2,show 20 - k=(20 - (k+1))+1 from by omega,takeN,if_pos h3,List.take_add_one]
 have:(l.drop i)[k]? =some l[i+k]:=by rw[List.getElem?_drop,List.getElem?_eq_getElem h2]
 rw[this]
 have e0:((k+1==0)=false):=by simp
 rw[e0]
 simp[Nat.add_assoc]
theorem ki{l:List Int}{i k:Nat}(h:vC l i k)(he:¬(k<20/\∃h2:i+k<l.length,gw l[i+k] (k==0)=true)):bL l i=(l.drop i).take k:=by
 rw[h.rest]
 have:takeN (20 - k) (l.drop (i+k)) (k==0)=[]:=by
  by_cases h1:k<20
  ·rw [show 20 - k=(20 - (k+1))+1 from by omega]
   by_cases h2:i+k<l.length
   ·rw[List.drop_eq_getElem_cons h2,takeN,if_neg (fun h3=>he ⟨h1,h2,h3⟩)]
   ·rw[List.drop_eq_nil_of_le (by omega),takeN]
  ·rw[show 20 - k=0 from by omega,takeN]
 rw[this,List.append_nil]
theorem kA{l:List Int}{i k:Nat}(h:vC l i k):((l.drop i).take k).length=k:=by
 rw[List.length_take,List.length_drop];have:=h.k2;omega
theorem Cy{p:Int}{f:Bool}(h:gw p f=true):48<=p/\p<=122:=by
 unfold gw tC dz at h
 simp at h
 rcases h with(h|h)|h
 ·omega
 ·omega
 ·obtain ⟨_,h⟩:=h
  split at h
  ·omega
  ·split at h
   ·omega
   ·split at h
    ·omega
    ·simp at h
theorem Ey(l:List Int)(i:Nat)(h:i<=l.length):i+(bL l i).length<=l.length/\(bL l i).length<=20:=by
 have key:∀f k,vC l i k->20 - k<=f->i+(bL l i).length<=l.length/\(bL l i).length<=20:=by
  intro f
  induction f with
  |zero=>
   intro k hr hf
   rw[ki hr (fun hh=>by omega),kA hr]
   exact⟨hr.k2,hr.k1⟩
  |succ f ih=>
   intro k hr hf
   by_cases hc:k<20/\∃h2:i+k<l.length,gw l[i+k] (k==0)=true
   ·obtain ⟨h1,h2,h3⟩:=hc
    exact ih _ (rW hr h1 h2 h3) (by omega)
   ·rw [ki hr hc,kA hr]
    exact⟨hr.k2,hr.k1⟩
 exact key 20 0 (qu l i h) (by omega)
def FE:Value->Nat| .slice _ n _=>n|_=>0
def Jk(b:Nat)(x:Addr)(c:Nat)(l:List Int)(i:Nat)(d:Int)(w:World)(e:Ending)(w':World):Prop:=
 e=.returned (.string (bE (bL l i)))/\RB w' b x c l (i+(bL l i).length) d/\Mv b w w'
def J3(b:Nat)(x:Addr)(c:Nat)(l:List Int)(i:Nat)(d:Int)(w:World)(e:Ending)(w':World):Prop:=
 (bL l i=[]/\e=bK 1/\Mv b w w')\/(bL l i≠[]/\e=.returned (.string (bE (bL l i)))/\RB w' b x c l (i+(bL l i).length) d/\Mv b w w')
theorem BF{b:Nat}{x:Addr}{c:Nat}{l:List Int}{i:Nat}{d:Int}(w:World)(h:RB w b x c l i d):
  Calls prog 143 #[.pointer (some ⟨b,0,none⟩)] w fun e w'=>Jk b x c l i d w e w':=by
 obtain⟨i0,hi,hz0,hz1,hz2⟩:=info_parts H4
 have hat:=h.at'
 have hsm:=h.small
 have HP:=I h.dL
 have HR0:=I h
 have hbw:=h.lt
 clear h
 go_enter func143,ntmps143
 go_wp2
 go_loopw [3] (fun v wr=>∃k:Nat,vC l i k/\wr.ownsRow w.heap.size 5 1 v k (xE ((l.drop i).take k))/\RB wr b x c l (i+k) d/\Mv b w wr) (fun v _=>20 - FE v)
 case atStart=>exact⟨0,qu l i hat,World.ownsRow_nil _ _ _ _,HR0.o,Mv.refl b w⟩
 case round=>
  obtain⟨k,hn,ho,hr,hv⟩:=hrel
  have HN:=I hn
  have HO:=I ho
  have HV:=I hv
  have hk1:=hn.k1
  obtain⟨ao,ca,rfl⟩:=ax ho
  have hob:(Value.slice ao k ca).ownBlock≠some b:=fun e=>by
   have h1:=(ho.lt _ e).1
   omega
  obtain⟨j,hj⟩:∃j,j=i+k:=⟨_,rfl⟩
  have HJ:=I hj
  rw[<- hj]at hr
  have HRr:=I hr
  obtain⟨c0,c1,c2,f1⟩:=hr.cells
  have HE:=I (fun q=>kU (wr.drewN q) (hr.drewN q))
  obtain⟨len,hlen⟩:∃len,len=l.length:=⟨_,rfl⟩
  have HL:=I hlen
  rw[<- hlen]at HE c0 hsm
  have hjl:j<=len:=by rw[hlen];exact hr.at'
  have hsz:w.heap.size<=wr.heap.size:=hv.size
  by_cases h1:k<20
  ·have t1:(decide ((k:Int)<20))=true:=by simp;omega
   by_cases h2:j<len
   ·have h2':j<l.length:=by omega
    have hpat:=hr.pat j h2'
    have hxw:Hid (x.block<w.heap.size):=by
     have:=HR0.o.pat j h2'
     have:=World.block_lt_of_cell? _ _ this
     rw[aS]at this
     exact this
    have hpt:=HP.o l[j] (List.getElem_mem _)
    have e1:decide (len<=j)=false:=by simp;omega
    rw[e1]at HE
    have HG:=I (fun w'=>wI l[j] (decide ((k:Int)=0)) w' hpt.1 hpt.2)
    have hk0:(k==0)=decide ((k:Int)=0):=by rw[Bool.eq_iff_iff];simp
    by_cases h3:gw l[j] (decide ((k:Int)=0))=true
    ·have hnx:Hid (vC l i (k+1)):=by
      subst hj
      exact rW hn h1 h2' (by rw[hk0];exact h3)
     have hrg:=Cy h3
     have htk:Hid ((l.drop i).take (k+1)=(l.drop i).take k++[l[j]]):=by
      show _=_
      rw[List.take_add_one,List.getElem?_drop]
      subst hj
      rw[List.getElem?_eq_getElem h2']
      rfl
     rw[h3]at HG
     obtain⟨p,hp⟩:∃p,p=l[j]:=⟨_,rfl⟩
     rw[<- hp]at hpat HG htk hrg
     obtain⟨r0,r1⟩:=hrg
     have wp:IntKind.u8.wrap p=p:=by unfold IntKind.wrap;simp[IntKind.bits,IntKind.signed];omega
     have hne:(Value.slice ao k ca).ownBlock≠some x.block:=fun e=>by
      have h1:=(HO.o.lt _ e).1
      have h2:=hxw.o
      omega
     clear e1 hp hn hr hv hlen hpt h2' hj hat ho h3 hk0
     go_wp2
     go_quiet (first|(go_at_call 104;refine Calls.quiet_of (HE.o _))|(go_at_call 70;refine Calls.quiet_of_same (HG.o _)))
     obtain⟨q1,rfl⟩:∃q1,q1=nq:=⟨_,rfl⟩
     go_wp2
     obtain⟨w3,hw3⟩:∃w3,w3=wr.drewN q1:=⟨_,rfl⟩
     have d0:w3.cell? ⟨b,0,none⟩=some (.slice (some x) len c):=by rw[hw3];exact c0
     have d1:w3.cell? ⟨b,1,none⟩=some (.int .i64 j):=by rw[hw3];exact c1
     have d2:w3.cell? (x.add j)=some (.int .i64 p):=by rw[hw3];exact hpat
     have HO3:Hid (w3.ownsRow w.heap.size 5 1 (.slice ao k ca) k (xE ((l.drop i).take k))):=by show World.ownsRow _ _ _ _ _ _ _;rw[hw3];exact HO.o
     have HR3:Hid (RB w3 b x c l j d):=by show RB _ _ _ _ _ _ _;rw[hw3];exact HRr.o.drewN q1
     have HV3:Hid (Mv b w w3):=by show Mv _ _ _;rw[hw3];exact HV.o.drewN q1
     have hsz3:w.heap.size<=w3.heap.size:=HV3.o.size
     have hb3:b<w3.heap.size:=by omega
     have hx3:x.block<w3.heap.size:=Nat.lt_of_lt_of_le hxw.o hsz3
     rw[<- hw3]
     clear c0 c1 c2 f1 hpat hw3 hsz
     have g1:(j:Int)<(len:Int):=by omega
     have g0:(0:Int)<=(j:Int):=by omega
     go_region_held3 (fun w'=>w'.cell? ⟨b,0,none⟩=some (.slice (some x) len c)/\w'.cell? ⟨b,1,none⟩=some (.int .i64 j)/\w'.cell? (x.add j)=some (.int .i64 p))
      (first|go_keep|(go_split_ands;refine⟨?_,?_,?_⟩<;>(rw[hgrow.cell_far _ (by simp[aS];omega) (by first|(simpa[aS]using Ne.symm hne)|(simpa using Ne.symm hob))];assumption)))
      ((refine step_append_lies _ (by rfl) _ _ _ (by rfl) w.heap.size 5 i0 _ 1 1 underlying59 hi hz0 hz1 hz2 rfl (by omega) (.slice ao k ca) k (xE ((l.drop i).take k)) (by rfl) ((HO3.o.alloc _).drew) ⟨w3.heap.size,0,none⟩ 1 1 [.int .u8 p] (by rfl) (by rfl) (World.news_of_block (cs:=#[.int .u8 p]) (t:=5) (fr:=(0,0)) (heap_alloc_new w3 _)) (by simp[Value.oneCell']) (by omega) (by unfold maxLen;omega) (by omega) (by simp;omega) (w3.heap.size+1) (by simp) ?_;intro gg cap w1 hown1 hgrow hat1 hltt))
     have hbw1:Hid (Below w.heap.size w3 w1):=((J w.heap.size w3).alloc hsz3 _).drew.grown hgrow (by show w.heap.size<=(w3.alloc _).heap.size;simp;omega) (fun k' hk=>(HO3.o.lt k' hk).1)
     have hr1:=HR3.o.kq hbw1.o hbw hxw.o
     have HR1:=I hr1
     have hv1:Hid (Mv b w w1):=⟨hbw1.o.os.trans HV3.o.os,hbw1.o.tape.trans HV3.o.tape,hbw1.o.output.trans HV3.o.output,Nat.le_trans HV3.o.size hbw1.o.size,fun k' h1' h2'=>(hbw1.o.block k' h1').trans (HV3.o.block k' h1' h2')⟩
     have HO1:=I hown1
     have hob1:Hid ((Value.slice (some ⟨gg,0,none⟩) (k+1) cap).ownBlock≠some b):=fun e=>by
      have h1':=(hown1.lt _ e).1
      omega
     obtain⟨c0,c1,c2,f1⟩:=hr1.cells
     rw[<- HL.o]at c0
     clear hr1 hown1 hgrow hat1 hltt d0 d1 d2
     go_wp2
     go_roundw
     case rel=>exact⟨k+1,hnx.o,by rw[htk.o,ql];exact ownsRow_setCell_other HO1.o hob1.o _,by
       have:=HR1.o.go (j+1) (by have:=HL.o;omega)
       have e:i+(k+1)=j+1:=by have:=HJ.o;omega
       rw[e];simpa using this,by have:=hv1.o.setCell 1 (.int .i64 ((j+1:Nat):Int));simpa using this⟩
     case measure=>simp[FE];omega
    ·have h3':gw l[j] (decide ((k:Int)=0))=false:=by simpa using h3
     have hE:Hid (bL l i=(l.drop i).take k):=by
      subst hj
      exact ki hn (fun ⟨_,_,hh⟩=>h3 (by rw[<- hk0];exact hh))
     rw[h3']at HG
     obtain⟨p,hp⟩:∃p,p=l[j]:=⟨_,rfl⟩
     rw[<- hp]at hpat HG
     clear e1 hp hn hr hv hlen hpt h2' hj hat ho h3 h3' hk0
     have hnl:Hid ((bL l i).length=k):=by show _=_;rw[hE.o];exact kA HN.o
     have HO4:=I (gD (w:=wr) HO.o)
     have hcv:∀q,(convert 59 9 (.slice ao k ca)).run prog (wr.drewN q)=.ok (.string (bE ((l.drop i).take k))) (wr.drewN q):=fun q=>gD (w:=wr.drewN q) HO.o
     obtain⟨S,hS⟩:∃S,S=bE ((l.drop i).take k):=⟨_,rfl⟩
     rw[<- hS]at hcv
     have HSS:=I hS
     clear hS
     go_wp2
     go_quiet (first|(go_at_call 104;refine Calls.quiet_of (HE.o _))|(go_at_call 70;refine Calls.quiet_of_same (HG.o _)))
     go_wp2
     go_ret
     exact⟨(by rw[HSS.o,hE.o];first|rfl|skip),by
      have:=HRr.o.drewN nq
      rw[HJ.o]at this
      rw[hnl.o];exact this,HV.o.drewN nq⟩
   ·have hE:Hid (bL l i=(l.drop i).take k):=by
     subst hj
     exact ki hn (fun ⟨_,hh,_⟩=>h2 (by omega))
    have e1:decide (len<=j)=true:=by simp;omega
    rw[e1]at HE
    clear e1 hn hr hv hlen hj hat ho
    have hnl:Hid ((bL l i).length=k):=by show _=_;rw[hE.o];exact kA HN.o
    have HO4:=I (gD (w:=wr) HO.o)
    have hcv:∀q,(convert 59 9 (.slice ao k ca)).run prog (wr.drewN q)=.ok (.string (bE ((l.drop i).take k))) (wr.drewN q):=fun q=>gD (w:=wr.drewN q) HO.o
    obtain⟨S,hS⟩:∃S,S=bE ((l.drop i).take k):=⟨_,rfl⟩
    rw[<- hS]at hcv
    have HSS:=I hS
    clear hS
    go_wp2
    go_quiet (first|(go_at_call 104;refine Calls.quiet_of (HE.o _)))
    go_wp2
    go_ret
    exact⟨(by rw[HSS.o,hE.o];first|rfl|skip),by
     have:=HRr.o.drewN nq
     rw[HJ.o]at this
     rw[hnl.o];exact this,HV.o.drewN nq⟩
  ·have t1:(decide ((k:Int)<20))=false:=by simp;omega
   have hE:Hid (bL l i=(l.drop i).take k):=ki hn (fun ⟨hh,_⟩=>h1 hh)
   clear hn hr hv hlen hj hat ho
   have hnl:Hid ((bL l i).length=k):=by show _=_;rw[hE.o];exact kA HN.o
   have HO4:=I (gD (w:=wr) HO.o)
   have hcv:∀q,(convert 59 9 (.slice ao k ca)).run prog (wr.drewN q)=.ok (.string (bE ((l.drop i).take k))) (wr.drewN q):=fun q=>gD (w:=wr.drewN q) HO.o
   obtain⟨S,hS⟩:∃S,S=bE ((l.drop i).take k):=⟨_,rfl⟩
   rw[<- hS]at hcv
   have HSS:=I hS
   clear hS
   go_wp2
   go_quiet (fail)
   go_wp2
   go_ret
   exact⟨(by rw[HSS.o,hE.o];first|rfl|skip),by
    have:=HRr.o.drewN nq
    rw[HJ.o]at this
    rw[hnl.o];exact this,HV.o.drewN nq⟩
theorem dR(l:List Int):(bE l).toList=l.map (fun p=>UInt8.ofNat p.toNat):=by
 rw[ByteArray.toList_eq]
 rfl
theorem uO{b:Nat}{x:Addr}{c:Nat}{l:List Int}{i:Nat}{d:Int}(w:World)(h:RB w b x c l i d):
  Calls prog 136 #[.pointer (some ⟨b,0,none⟩)] w fun e w'=>J3 b x c l i d w e w':=by
 have hC:=BF w h
 unfold Jk at hC
 clear h
 obtain⟨S,hS⟩:∃S,S=bE (bL l i):=⟨_,rfl⟩
 rw[<- hS]at hC
 have HC:=I hC
 clear hC
 have HSS:=I hS
 by_cases hn:bL l i=[]
 ·have h1:S.toList=[]:=by rw[hS,hn,dR];rfl
  have h2:S.toList.isEmpty=true:=by rw[h1];rfl
  have HN:=I hn
  clear hS hn
  go_enter func136,ntmps136
  go_wp2_with fail
  refine HC.o.mono ?_
  rintro e w1 ⟨rfl,hr1,hv1⟩
  have HV:=I hv1
  clear hr1 hv1 HC
  go_wp2
  exact⟨rfl,.inl ⟨HN.o,rfl,HV.o⟩⟩
 ·have h1:¬S.toList=[]:=by rw[hS,dR];simpa using hn
  have h2:S.toList.isEmpty=false:=by
   cases hh:S.toList with
   |nil=>exact absurd hh h1
   |cons _ _=>rfl
  have HN:=I hn
  clear hS hn
  go_enter func136,ntmps136
  go_wp2_with fail
  refine HC.o.mono ?_
  rintro e w1 ⟨rfl,hr1,hv1⟩
  have HV:=I hv1
  have HR:=I hr1
  clear hr1 hv1 HC
  go_wp2
  go_ret
  exact .inr ⟨HN.o,by rw[HSS.o];rfl,HR.o,HV.o⟩
def aZ(t:Tok):Value:=.agg #[.int .i64 t.kind,.int .i64 t.num,.string t.text,.bool t.neg,.int .i64 t.least,.int .i64 t.an,.int .i64 t.bB,.int .i64 t.fold]
def aq(t:Tok):Obj:=.cells #[.int .i64 t.kind,.int .i64 t.num,.string t.text,.bool t.neg,.int .i64 t.least,.int .i64 t.an,.int .i64 t.bB,.int .i64 t.fold] 70 (0,0)
theorem ai{w:World}{k:Nat}{t:Tok}(h:w.heap[k]? =some (aq t)):
  w.cell? ⟨k,0,none⟩=some (.int .i64 t.kind)/\w.cell? ⟨k,1,none⟩=some (.int .i64 t.num)/\w.cell? ⟨k,2,none⟩=some (.string t.text)/\w.cell? ⟨k,3,none⟩=some (.bool t.neg)/\w.cell? ⟨k,4,none⟩=some (.int .i64 t.least)/\w.cell? ⟨k,5,none⟩=some (.int .i64 t.an)/\w.cell? ⟨k,6,none⟩=some (.int .i64 t.bB)/\w.cell? ⟨k,7,none⟩=some (.int .i64 t.fold):=by
 unfold aq at h
 refine⟨?_,?_,?_,?_,?_,?_,?_,?_⟩<;>simp[World.cell?,h]
theorem au{w:World}{k:Nat}{t:Tok}(h:w.heap[k]? =some (aq t))(o:Nat):w.frozen? ⟨k,o,none⟩=false:=by
 unfold aq at h
 simp[World.frozen?,h]
theorem dM(p:Int)(w:World):Calls prog 95 #[.int .i64 p] w fun e w'=>e=.returned (aZ (aM p))/\Below w.heap.size w w':=by
 go_enter func95,ntmps95
 go_wp2
 exact bodyPost_ret (v:=aZ (aM p)) (by simp[results,results95,go_sem,aZ,aM]) rfl ⟨rfl,(J _ _).alloc (U _) _⟩
theorem eP(p:Int)(w:World):Calls prog 93 #[.int .i64 p] w fun e w'=>e=.returned (aZ (bn p))/\Below w.heap.size w w':=by
 go_enter func93,ntmps93
 go_wp2
 exact bodyPost_ret (v:=aZ (bn p)) (by simp[results,results93,go_sem,aZ,bn]) rfl ⟨rfl,(J _ _).alloc (U _) _⟩
theorem eH(p:Int)(w:World):Calls prog 123 #[.int .i64 p] w fun e w'=>e=.returned (aZ (aP p))/\Below w.heap.size w w':=by
 go_enter func123,ntmps123
 go_wp2
 exact bodyPost_ret (v:=aZ (aP p)) (by simp[results,results123,go_sem,aZ,aP]) rfl ⟨rfl,(J _ _).alloc (U _) _⟩
theorem eO(p:Int)(w:World):Calls prog 125 #[.int .i64 p] w fun e w'=>e=.returned (aZ (aR p))/\Below w.heap.size w w':=by
 go_enter func125,ntmps125
 go_wp2
 exact bodyPost_ret (v:=aZ (aR p)) (by simp[results,results125,go_sem,aZ,aR]) rfl ⟨rfl,(J _ _).alloc (U _) _⟩
theorem Mv.aC{b:Nat}{w w1:World}(h:Mv b w w1){k:Nat}{o:Obj}(hk:w.heap[k]? =some o)(hb:k≠b):w1.heap[k]? =some o:=by rw[h.block k (lt_of_block hk) hb];exact hk
theorem RB.tok{w:World}{b:Nat}{x:Addr}{c:Nat}{l:List Int}{i:Nat}{d:Int}(h:RB w b x c l i d){k:Nat}(hk:k≠b)(hx:k≠x.block)(v0 v1 v2 v3 v4 v5 v6 v7:Value):
  RB ((((((((w.setCell ⟨k,0,none⟩ v0).setCell ⟨k,1,none⟩ v1).setCell ⟨k,2,none⟩ v2).setCell ⟨k,3,none⟩ v3).setCell ⟨k,4,none⟩ v4).setCell ⟨k,5,none⟩ v5).setCell ⟨k,6,none⟩ v6).setCell ⟨k,7,none⟩ v7) b x c l i d:=
 (((((((h.other hk hx v0).other hk hx v1).other hk hx v2).other hk hx v3).other hk hx v4).other hk hx v5).other hk hx v6).other hk hx v7
theorem Mv.tok{b:Nat}{w w1:World}(h:Mv b w w1){k:Nat}(hk:w.heap.size<=k)(v0 v1 v2 v3 v4 v5 v6 v7:Value):
  Mv b w ((((((((w1.setCell ⟨k,0,none⟩ v0).setCell ⟨k,1,none⟩ v1).setCell ⟨k,2,none⟩ v2).setCell ⟨k,3,none⟩ v3).setCell ⟨k,4,none⟩ v4).setCell ⟨k,5,none⟩ v5).setCell ⟨k,6,none⟩ v6).setCell ⟨k,7,none⟩ v7):=
 (((((((h.fw (p:=⟨k,0,none⟩) hk v0).fw (p:=⟨k,1,none⟩) hk v1).fw (p:=⟨k,2,none⟩) hk v2).fw (p:=⟨k,3,none⟩) hk v3).fw (p:=⟨k,4,none⟩) hk v4).fw (p:=⟨k,5,none⟩) hk v5).fw (p:=⟨k,6,none⟩) hk v6).fw (p:=⟨k,7,none⟩) hk v7
theorem ba{w:World}{k:Nat}{o o':Obj}(h:w.heap[k]? =some o):(w.alloc o').heap[k]? =some o:=by rw[Below.heap_alloc _ _ _ (lt_of_block h)];exact h
theorem bp(w:World)(o:Obj){k:Nat}(h:k=w.heap.size):(w.alloc o).heap[k]? =some o:=by rw[h];exact heap_alloc_new w o
theorem aj(w:World)(o:Obj):(w.alloc o).heap[w.heap.size]? =some o:=heap_alloc_new w o
theorem gB{b:Nat}{x:Addr}{c:Nat}{l:List Int}{i:Nat}{d:Int}(w:World)(h:RB w b x c l i d)(p:Int)(hs:bk l i [p]=true):
  Calls prog 107 #[.pointer (some ⟨b,0,none⟩),.slice (some ⟨w.heap.size,0,none⟩) 1 1] (w.alloc (.cells #[.int .i64 p] 3)) fun e w'=>e=.returned (.bool true)/\RB w' b x c l (i+1) d/\Mv b w w':=by
 have:=je _ 1 [p] _ (h.alloc (.cells #[.int .i64 p] 3)) (eZ w p 3) (by simp) (by simp)
 rw[hs,if_pos rfl]at this
 exact this.mono fun e w' ⟨h1,h2,h3⟩=>⟨h1,h2,((Mv.refl b w).alloc _).trans h3⟩
theorem iR{b:Nat}{x:Addr}{c:Nat}{l:List Int}{i:Nat}{d:Int}(w:World)(h:RB w b x c l i d)(p:Int)(hs:bk l i [p]=false):
  Calls prog 107 #[.pointer (some ⟨b,0,none⟩),.slice (some ⟨w.heap.size,0,none⟩) 1 1] (w.alloc (.cells #[.int .i64 p] 3)) fun e w'=>e=.returned (.bool false)/\RB w' b x c l i d/\Mv b w w':=by
 have:=je _ 1 [p] _ (h.alloc (.cells #[.int .i64 p] 3)) (eZ w p 3) (by simp) (by simp)
 rw[hs,if_neg (by simp)]at this
 exact this.mono fun e w' ⟨h1,h2,h3⟩=>⟨h1,h2,((Mv.refl b w).alloc _).trans h3⟩
theorem fa{b:Nat}{x:Addr}{c:Nat}{l:List Int}{i:Nat}{d:Int}(least an:Int)(w:World)(h:RB w b x c l i d):
  Calls prog 94 #[.pointer (some ⟨b,0,none⟩),.int .i64 least,.int .i64 an] w fun e w'=>e=.returned (aZ (cD d l i least an).1)/\RB w' b x c l (cD d l i least an).2 d/\Mv b w w':=by
 have HR:=I h
 obtain⟨c0,c1,c2,f1⟩:=h.cells
 have hlt:=h.lt
 have hxw:=h.xw
 by_cases hd:d=1
 ·subst hd
  have h2:=(h.alloc (aq {})).alloc (aq { kind:=6,least:=least,an:=an,bB:=1 })
  cases hs:bk l i [63]with
  |true=>
   have HS:=I (gB _ h2 63 hs)
   have hE:Hid (cD 1 l i least an=({ kind:=6,least:=least,an:=an,bB:=2 },i+1)):=by show _=_;unfold cD;rw[if_pos rfl,if_pos hs]
   clear hs h2 h
   go_enter func94,ntmps94
   go_wp2_with fail
   simp only[aq,World.size_alloc]at HS
   refine HS.o.mono ?_
   rintro e w1 ⟨rfl,hr,hm⟩
   have hN:w1.heap[w.heap.size]? =some (aq {}):=hm.aC (ba (aj _ _)) (by omega)
   have hN1:w1.heap[w.heap.size+1]? =some (aq { kind:=6,least:=least,an:=an,bB:=1 }):=hm.aC (bp (w.alloc (aq {})) _ (by simp)) (by omega)
   obtain⟨n0,n1,n2,n3,n4,n5,n6,n7⟩:=ai hN1
   obtain⟨m0,m1,m2,m3,m4,m5,m6,m7⟩:=ai hN
   have fr1:=au hN1
   have fr0:=au hN
   have HRR:=I hr
   have HMM:=I hm
   clear hr hm c0 c1 c2 f1 HS
   go_wp2
   rw[hE.o]
   refine bodyPost_ret (v:=aZ { kind:=6,least:=least,an:=an,bB:=2 }) (by simp[results,results94,go_sem,aZ,m0,m1,m2,m3,m4,m5,m6,m7]) rfl ⟨rfl,?_,?_⟩
   ·exact(HRR.o.other (by simp;omega) (by simp;omega) _).tok (by omega) (by omega) _ _ _ _ _ _ _ _
   ·exact Mv.tok (Mv.fw ((((Mv.refl b w).alloc _).alloc _).trans HMM.o) (by simp) _) (U _) _ _ _ _ _ _ _ _
  |false=>
   have HS:=I (iR _ h2 63 hs)
   cases hs2:bk l i [43]with
   |true=>
    have hE:Hid (cD 1 l i least an=({ kind:=6,least:=least,an:=an,bB:=3 },i+1)):=by show _=_;unfold cD;rw[if_pos rfl,if_neg (by rw[hs];simp),if_pos hs2]
    have HS2:Hid (∀w1,RB w1 b x c l i 1->_):=fun w1 h1=>gB w1 h1 43 hs2
    clear hs hs2 h2 h
    go_enter func94,ntmps94
    go_wp2_with fail
    simp only[aq,World.size_alloc]at HS
    refine HS.o.mono ?_
    rintro e w1 ⟨rfl,hr,hm⟩
    go_wp2_with fail
    refine(HS2.o w1 hr).mono ?_
    rintro e w2 ⟨rfl,hr2,hm2⟩
    have hm3:=hm.trans hm2
    have hN:w2.heap[w.heap.size]? =some (aq {}):=hm3.aC (ba (aj _ _)) (by omega)
    have hN1:w2.heap[w.heap.size+1]? =some (aq { kind:=6,least:=least,an:=an,bB:=1 }):=hm3.aC (bp (w.alloc (aq {})) _ (by simp)) (by omega)
    obtain⟨n0,n1,n2,n3,n4,n5,n6,n7⟩:=ai hN1
    obtain⟨m0,m1,m2,m3,m4,m5,m6,m7⟩:=ai hN
    have fr1:=au hN1
    have fr0:=au hN
    have HRR:=I hr2
    have HMM:=I hm3
    clear hr hm hr2 hm2 hm3 c0 c1 c2 f1 HS HS2
    go_wp2
    rw[hE.o]
    refine bodyPost_ret (v:=aZ { kind:=6,least:=least,an:=an,bB:=3 }) (by simp[results,results94,go_sem,aZ,m0,m1,m2,m3,m4,m5,m6,m7]) rfl ⟨rfl,?_,?_⟩
    ·exact(HRR.o.other (by simp;omega) (by simp;omega) _).tok (by omega) (by omega) _ _ _ _ _ _ _ _
    ·exact Mv.tok (Mv.fw ((((Mv.refl b w).alloc _).alloc _).trans HMM.o) (by simp) _) (U _) _ _ _ _ _ _ _ _
   |false=>
    have hE:Hid (cD 1 l i least an=({ kind:=6,least:=least,an:=an,bB:=1 },i)):=by show _=_;unfold cD;rw[if_pos rfl,if_neg (by rw[hs];simp),if_neg (by rw[hs2];simp)]
    have HS2:Hid (∀w1,RB w1 b x c l i 1->_):=fun w1 h1=>iR w1 h1 43 hs2
    clear hs hs2 h2 h
    go_enter func94,ntmps94
    go_wp2_with fail
    simp only[aq,World.size_alloc]at HS
    refine HS.o.mono ?_
    rintro e w1 ⟨rfl,hr,hm⟩
    go_wp2_with fail
    refine(HS2.o w1 hr).mono ?_
    rintro e w2 ⟨rfl,hr2,hm2⟩
    have hm3:=hm.trans hm2
    have hN:w2.heap[w.heap.size]? =some (aq {}):=hm3.aC (ba (aj _ _)) (by omega)
    have hN1:w2.heap[w.heap.size+1]? =some (aq { kind:=6,least:=least,an:=an,bB:=1 }):=hm3.aC (bp (w.alloc (aq {})) _ (by simp)) (by omega)
    obtain⟨n0,n1,n2,n3,n4,n5,n6,n7⟩:=ai hN1
    obtain⟨m0,m1,m2,m3,m4,m5,m6,m7⟩:=ai hN
    have fr0:=au hN
    have HRR:=I hr2
    have HMM:=I hm3
    clear hr hm hr2 hm2 hm3 c0 c1 c2 f1 HS HS2
    go_wp2
    rw[hE.o]
    refine bodyPost_ret (v:=aZ { kind:=6,least:=least,an:=an,bB:=1 }) (by simp[results,results94,go_sem,aZ,m0,m1,m2,m3,m4,m5,m6,m7]) rfl ⟨rfl,?_,?_⟩
    ·exact HRR.o.tok (by omega) (by omega) _ _ _ _ _ _ _ _
    ·exact Mv.tok ((((Mv.refl b w).alloc _).alloc _).trans HMM.o) (U _) _ _ _ _ _ _ _ _
 ·have hE:Hid (cD d l i least an=({ kind:=6,least:=least,an:=an,bB:=1 },i)):=by show _=_;unfold cD;rw[if_neg hd]
  have hdb:(d==1)=false:=by simpa using hd
  clear h
  go_enter func94,ntmps94
  go_wp2
  rw[hE.o]
  exact bodyPost_ret (v:=aZ { kind:=6,least:=least,an:=an,bB:=1 }) (by simp[results,results94,go_sem,aZ]) rfl ⟨rfl,(HR.o.alloc _).alloc _,((Mv.refl b w).alloc _).alloc _⟩
theorem bd{w:World}{N:Nat}{cs:Array Value}{e:TypeId}{fr:Nat×Nat}(h:w.heap[N]? =some (.cells cs e fr))(o:Nat)(v:Value):(w.setCell ⟨N,o,none⟩ v).heap[N]? =some (.cells (cs.setIfInBounds o v) e fr):=by
 have hlt:=lt_of_block h
 have h':w.heap[N]=.cells cs e fr:=by simpa[Array.getElem?_eq_getElem hlt]using h
 show(w.heap.modify N _)[N]? =_
 rw[Array.getElem?_eq_getElem (by simpa using hlt),Array.getElem_modify_self,h']
 rfl
theorem aI{w:World}{N:Nat}{t0:Tok}(h:w.heap[N]? =some (aq t0))(t:Tok):
  ((((((((w.setCell ⟨N,0,none⟩ (.int .i64 t.kind)).setCell ⟨N,1,none⟩ (.int .i64 t.num)).setCell ⟨N,2,none⟩ (.string t.text)).setCell ⟨N,3,none⟩ (.bool t.neg)).setCell ⟨N,4,none⟩ (.int .i64 t.least)).setCell ⟨N,5,none⟩ (.int .i64 t.an)).setCell ⟨N,6,none⟩ (.int .i64 t.bB)).setCell ⟨N,7,none⟩ (.int .i64 t.fold)).heap[N]? =some (aq t):=by
 unfold aq at h
 rw[bd (bd (bd (bd (bd (bd (bd (bd h _ _) _ _) _ _) _ _) _ _) _ _) _ _) _ _]
 simp[aq]
theorem aK{f:Func}{s:Nat}{R:Ending->World->Prop}{tmps:Array Value}{W:World}{t:Tok}{N:Nat}(hres:f.results=#[ResultVar.cell s 70])(hs:tmps[s]? =some (.pointer (some ⟨N,0,none⟩)))(hW:W.heap[N]? =some (aq t))(h:R (.returned (aZ t)) W):
  bodyPost prog f R Exit.ret { tmps:=tmps,defers:=[] } W:=by
 obtain⟨r0,r1,r2,r3,r4,r5,r6,r7⟩:=ai hW
 refine bodyPost_ret (v:=aZ t) ?_ rfl h
 simp[results,hres,go_sem,hs,r0,r1,r2,r3,r4,r5,r6,r7,aZ]
theorem lF{b:Nat}{x:Addr}{c:Nat}{l:List Int}{i:Nat}{d:Int}(w:World)(h:RB w b x c l i d)(p:Int):
  Calls prog 107 #[.pointer (some ⟨b,0,none⟩),.slice (some ⟨w.heap.size,0,none⟩) 1 1] (w.alloc (.cells #[.int .i64 p] 3)) fun e w'=>e=.returned (.bool (bk l i [p]))/\RB w' b x c l (if bk l i [p]then i+1 else i) d/\Mv b w w':=
 (je _ 1 [p] _ (h.alloc (.cells #[.int .i64 p] 3)) (eZ w p 3) (by simp) (by simp)).mono fun e w' ⟨h1,h2,h3⟩=>⟨h1,h2,((Mv.refl b w).alloc _).trans h3⟩
theorem lQ(w:World)(p q:Int)(t:TypeId):bU (w.alloc (.cells #[.int .i64 p,.int .i64 q] t)) ⟨w.heap.size,0,none⟩ [p,q]:=by
 intro j hj
 have:j=0\/j=1:=by simp at hj;omega
 rcases this with rfl|rfl
 ·have :(w.alloc (.cells #[.int .i64 p,.int .i64 q] t)).cell? ⟨w.heap.size,0,none⟩=some (.int .i64 p):=by rw[World.cell?_alloc_at _ _ _ _ (by simp)];rfl
  simp[Addr.add]
 ·have :(w.alloc (.cells #[.int .i64 p,.int .i64 q] t)).cell? ⟨w.heap.size,1,none⟩=some (.int .i64 q):=by rw[World.cell?_alloc_at _ _ _ _ (by simp)];rfl
  simp[Addr.add]
theorem sX{b:Nat}{x:Addr}{c:Nat}{l:List Int}{i:Nat}{d:Int}(w:World)(h:RB w b x c l i d)(p q:Int):
  Calls prog 107 #[.pointer (some ⟨b,0,none⟩),.slice (some ⟨w.heap.size,0,none⟩) 2 2] (w.alloc (.cells #[.int .i64 p,.int .i64 q] 3)) fun e w'=>e=.returned (.bool (bk l i [p,q]))/\RB w' b x c l (if bk l i [p,q]then i+2 else i) d/\Mv b w w':=
 (je _ 2 [p,q] _ (h.alloc (.cells #[.int .i64 p,.int .i64 q] 3)) (lQ w p q 3) (by simp) (by simp)).mono fun e w' ⟨h1,h2,h3⟩=>⟨h1,h2,((Mv.refl b w).alloc _).trans h3⟩
theorem lg{b:Nat}{x:Addr}{c:Nat}{l:List Int}{i:Nat}{d:Int}{an k:Nat}{n:Int}{base:Int}(w:World)(h:RB w b x c l i d)(hb:base=10\/base=16)(hm:an<=6)(he:cL base an l i=(n,k)):
  Calls prog 135 #[.pointer (some ⟨b,0,none⟩),.int .i64 base,.int .i64 an] w fun e w'=>e=.returned (.tuple #[.int .i64 n,.int .i64 k])/\RB w' b x c l (i+k) d/\Mv b w w':=by
 have:=l9 base an w h hb hm
 rw[he]at this
 exact this
theorem Cq{d:Int}{l:List Int}{i k1:Nat}{n1:Int}(e1:cL 10 3 l i=(n1,k1))(hc:bk l (i+k1) [44]=false):ch d l i=(if k1=0 then(0,0,false,i+k1)else if d=3 then(n1,n1,bk l (i+k1) [92,125],if bk l (i+k1) [92,125]then i+k1+2 else i+k1)else(n1,n1,bk l (i+k1) [125],if bk l (i+k1) [125]then i+k1+1 else i+k1)):=by
 unfold ch
 simp only[e1,hc,Bool.false_eq_true,if_false]
theorem Ep{d:Int}{l:List Int}{i k1 k2:Nat}{n1 n2:Int}(e1:cL 10 3 l i=(n1,k1))(hc:bk l (i+k1) [44]=true)(e2:cL 10 3 l (i+k1+1)=(n2,k2)):ch d l i=(if k1+k2=0 then(0,0,false,i+k1+1+k2)else if d=3 then(n1,(if k2=0 then -1 else n2),bk l (i+k1+1+k2) [92,125],if bk l (i+k1+1+k2) [92,125]then i+k1+1+k2+2 else i+k1+1+k2)else(n1,(if k2=0 then -1 else n2),bk l (i+k1+1+k2) [125],if bk l (i+k1+1+k2) [125]then i+k1+1+k2+1 else i+k1+1+k2)):=by
 unfold ch
 simp only[e1,hc,e2,if_true]
theorem xL{b:Nat}{x:Addr}{c:Nat}{l:List Int}{i:Nat}{d:Int}(w:World)(h:RB w b x c l i d):
  Calls prog 129 #[.pointer (some ⟨b,0,none⟩)] w fun e w'=>e=.returned (.tuple #[.int .i64 (ch d l i).1,.int .i64 (ch d l i).2.1,.bool (ch d l i).2.2.1])/\RB w' b x c l (ch d l i).2.2.2 d/\Mv b w w':=by
 obtain⟨n1,k1,e1,r1⟩:=eG 10 3 l i h.at' (Or.inl rfl)
 have HD1:=I (lg w h (Or.inl rfl) (by omega) e1)
 have hb1:=fW r1 (by omega)
 have hk1:=r1.k1
 have hn1:=r1.n0
 cases hc:bk l (i+k1) [44]with
 |false=>
  have HS:=I (fun w1 (h1:RB w1 b x c l (i+k1) d)=>iR w1 h1 44 hc)
  have hE:=I (Cq (d:=d) e1 hc)
  obtain⟨j,hj⟩:∃j,j=i+k1:=⟨_,rfl⟩
  rw[<- hj]at HD1 HS hE
  clear hc e1 r1 h hj
  by_cases hk:k1=0
  ·subst hk
   rw[if_pos rfl]at hE
   go_enter func129,ntmps129
   go_wp2_with fail
   refine HD1.o.mono ?_
   rintro e w1 ⟨rfl,hr1,hm1⟩
   go_wp2_with fail
   refine(HS.o w1 hr1).mono ?_
   rintro e w2 ⟨rfl,hr2,hm2⟩
   have HR2:=I hr2
   have HM2:=I (hm1.trans hm2)
   clear hr1 hm1 hr2 hm2 HD1 HS
   go_wp2
   rw[hE.o]
   go_ret3
   exact⟨rfl,HR2.o,HM2.o⟩
  ·rw [if_neg hk]at hE
   have hkb:((k1:Int)==0)=false:=by simp;omega
   have hki:¬((k1:Int)=0):=by omega
   by_cases hd:d=3
   ·subst hd
    rw[if_pos rfl]at hE
    obtain⟨z,hz⟩:∃z,z=bk l j [92,125]:=⟨_,rfl⟩
    rw[<- hz]at hE
    go_enter func129,ntmps129
    go_wp2_with fail
    refine HD1.o.mono ?_
    rintro e w1 ⟨rfl,hr1,hm1⟩
    go_wp2_with fail
    refine(HS.o w1 hr1).mono ?_
    rintro e w2 ⟨rfl,hr2,hm2⟩
    obtain⟨c0,c1,c2,f1⟩:=hr2.cells
    have HSk:=I (sX _ hr2 92 125)
    have HM2:=I (hm1.trans hm2)
    clear hr1 hm1 hr2 hm2 HD1 HS c0 c1 f1
    rw[<- hz]at HSk
    clear hz
    go_wp2_with fail
    refine HSk.o.mono ?_
    rintro e w9 ⟨rfl,hr9,hm9⟩
    have HR9:=I hr9
    have HM9:=I (HM2.o.trans hm9)
    clear hr9 hm9 HSk
    go_wp2
    rw[hE.o]
    go_ret3
    exact⟨rfl,HR9.o,HM9.o⟩
   ·rw [if_neg hd]at hE
    have hdb:(d==3)=false:=by simpa using hd
    obtain⟨z,hz⟩:∃z,z=bk l j [125]:=⟨_,rfl⟩
    rw[<- hz]at hE
    go_enter func129,ntmps129
    go_wp2_with fail
    refine HD1.o.mono ?_
    rintro e w1 ⟨rfl,hr1,hm1⟩
    go_wp2_with fail
    refine(HS.o w1 hr1).mono ?_
    rintro e w2 ⟨rfl,hr2,hm2⟩
    obtain⟨c0,c1,c2,f1⟩:=hr2.cells
    have HSk:=I (lF _ hr2 125)
    have HM2:=I (hm1.trans hm2)
    clear hr1 hm1 hr2 hm2 HD1 HS c0 c1 f1
    rw[<- hz]at HSk
    clear hz
    go_wp2_with fail
    refine HSk.o.mono ?_
    rintro e w9 ⟨rfl,hr9,hm9⟩
    have HR9:=I hr9
    have HM9:=I (HM2.o.trans hm9)
    clear hr9 hm9 HSk
    go_wp2
    rw[hE.o]
    go_ret3
    exact⟨rfl,HR9.o,HM9.o⟩
 |true=>
  have hin:=fF hc (by simp)
  obtain⟨n2,k2,e2,r2⟩:=eG 10 3 l (i+k1+1) (by simpa using hin) (Or.inl rfl)
  have HS:=I (fun w1 (h1:RB w1 b x c l (i+k1) d)=>gB w1 h1 44 hc)
  have HD2:=I (fun w2 (h2:RB w2 b x c l (i+k1+1) d)=>lg w2 h2 (Or.inl rfl) (show 3<=6 by omega) e2)
  have hb2:=fW r2 (by omega)
  have hk2:=r2.k1
  have hn2:=r2.n0
  have hE:=I (Ep (d:=d) e1 hc e2)
  obtain⟨j,hj⟩:∃j,j=i+k1:=⟨_,rfl⟩
  rw[<- hj]at HD1 HS HD2 hE
  obtain⟨m,hm⟩:∃m,m=j+1+k2:=⟨_,rfl⟩
  rw[<- hm]at HD2 hE
  clear hc e1 e2 r1 r2 h hj hm hin
  by_cases hk0:k2=0
  ·subst hk0
   by_cases hk:k1=0
   ·subst hk
    rw[if_pos rfl]at hE
    go_enter func129,ntmps129
    go_wp2_with fail
    refine HD1.o.mono ?_
    rintro e w1 ⟨rfl,hr1,hm1⟩
    go_wp2_with fail
    refine(HS.o w1 hr1).mono ?_
    rintro e w2 ⟨rfl,hr2,hm2⟩
    go_wp2_with fail
    refine(HD2.o w2 hr2).mono ?_
    rintro e w3 ⟨rfl,hr3,hm3⟩
    have HR2:=I hr3
    have HM2:=I ((hm1.trans hm2).trans hm3)
    clear hr1 hm1 hr2 hm2 hr3 hm3 HD1 HS HD2
    go_wp2
    rw[hE.o]
    go_ret3
    exact⟨rfl,HR2.o,HM2.o⟩
   ·rw [if_neg (by omega),if_pos rfl]at hE
    have hkb:((k1:Int)==0)=false:=by simp;omega
    have hki:¬((k1:Int)=0):=by omega
    by_cases hd:d=3
    ·subst hd
     rw[if_pos rfl]at hE
     obtain⟨z,hz⟩:∃z,z=bk l m [92,125]:=⟨_,rfl⟩
     rw[<- hz]at hE
     go_enter func129,ntmps129
     go_wp2_with fail
     refine HD1.o.mono ?_
     rintro e w1 ⟨rfl,hr1,hm1⟩
     go_wp2_with fail
     refine(HS.o w1 hr1).mono ?_
     rintro e w2 ⟨rfl,hr2,hm2⟩
     go_wp2_with fail
     refine(HD2.o w2 hr2).mono ?_
     rintro e w3 ⟨rfl,hr3,hm3⟩
     obtain⟨c0,c1,c2,f1⟩:=hr3.cells
     have HSk:=I (sX _ hr3 92 125)
     have HM2:=I ((hm1.trans hm2).trans hm3)
     clear hr1 hm1 hr2 hm2 hr3 hm3 HD1 HS HD2 c0 c1 f1
     rw[<- hz]at HSk
     clear hz
     go_wp2_with fail
     refine HSk.o.mono ?_
     rintro e w9 ⟨rfl,hr9,hm9⟩
     have HR9:=I hr9
     have HM9:=I (HM2.o.trans hm9)
     clear hr9 hm9 HSk
     go_wp2
     rw[hE.o]
     go_ret3
     exact⟨rfl,HR9.o,HM9.o⟩
    ·rw [if_neg hd]at hE
     have hdb:(d==3)=false:=by simpa using hd
     obtain⟨z,hz⟩:∃z,z=bk l m [125]:=⟨_,rfl⟩
     rw[<- hz]at hE
     go_enter func129,ntmps129
     go_wp2_with fail
     refine HD1.o.mono ?_
     rintro e w1 ⟨rfl,hr1,hm1⟩
     go_wp2_with fail
     refine(HS.o w1 hr1).mono ?_
     rintro e w2 ⟨rfl,hr2,hm2⟩
     go_wp2_with fail
     refine(HD2.o w2 hr2).mono ?_
     rintro e w3 ⟨rfl,hr3,hm3⟩
     obtain⟨c0,c1,c2,f1⟩:=hr3.cells
     have HSk:=I (lF _ hr3 125)
     have HM2:=I ((hm1.trans hm2).trans hm3)
     clear hr1 hm1 hr2 hm2 hr3 hm3 HD1 HS HD2 c0 c1 f1
     rw[<- hz]at HSk
     clear hz
     go_wp2_with fail
     refine HSk.o.mono ?_
     rintro e w9 ⟨rfl,hr9,hm9⟩
     have HR9:=I hr9
     have HM9:=I (HM2.o.trans hm9)
     clear hr9 hm9 HSk
     go_wp2
     rw[hE.o]
     go_ret3
     exact⟨rfl,HR9.o,HM9.o⟩
  ·rw [if_neg (by omega),if_neg hk0]at hE
   have hkc:((k2:Int)==0)=false:=by simp;omega
   have hkj:¬((k2:Int)=0):=by omega
   have hkb:((k1:Int)+(k2:Int)==0)=false:=by simp;omega
   have hki:¬((k1:Int)+(k2:Int)=0):=by omega
   by_cases hd:d=3
   ·subst hd
    rw[if_pos rfl]at hE
    obtain⟨z,hz⟩:∃z,z=bk l m [92,125]:=⟨_,rfl⟩
    rw[<- hz]at hE
    go_enter func129,ntmps129
    go_wp2_with fail
    refine HD1.o.mono ?_
    rintro e w1 ⟨rfl,hr1,hm1⟩
    go_wp2_with fail
    refine(HS.o w1 hr1).mono ?_
    rintro e w2 ⟨rfl,hr2,hm2⟩
    go_wp2_with fail
    refine(HD2.o w2 hr2).mono ?_
    rintro e w3 ⟨rfl,hr3,hm3⟩
    obtain⟨c0,c1,c2,f1⟩:=hr3.cells
    have HSk:=I (sX _ hr3 92 125)
    have HM2:=I ((hm1.trans hm2).trans hm3)
    clear hr1 hm1 hr2 hm2 hr3 hm3 HD1 HS HD2 c0 c1 f1
    rw[<- hz]at HSk
    clear hz
    go_wp2_with fail
    refine HSk.o.mono ?_
    rintro e w9 ⟨rfl,hr9,hm9⟩
    have HR9:=I hr9
    have HM9:=I (HM2.o.trans hm9)
    clear hr9 hm9 HSk
    go_wp2
    rw[hE.o]
    go_ret3
    exact⟨rfl,HR9.o,HM9.o⟩
   ·rw [if_neg hd]at hE
    have hdb:(d==3)=false:=by simpa using hd
    obtain⟨z,hz⟩:∃z,z=bk l m [125]:=⟨_,rfl⟩
    rw[<- hz]at hE
    go_enter func129,ntmps129
    go_wp2_with fail
    refine HD1.o.mono ?_
    rintro e w1 ⟨rfl,hr1,hm1⟩
    go_wp2_with fail
    refine(HS.o w1 hr1).mono ?_
    rintro e w2 ⟨rfl,hr2,hm2⟩
    go_wp2_with fail
    refine(HD2.o w2 hr2).mono ?_
    rintro e w3 ⟨rfl,hr3,hm3⟩
    obtain⟨c0,c1,c2,f1⟩:=hr3.cells
    have HSk:=I (lF _ hr3 125)
    have HM2:=I ((hm1.trans hm2).trans hm3)
    clear hr1 hm1 hr2 hm2 hr3 hm3 HD1 HS HD2 c0 c1 f1
    rw[<- hz]at HSk
    clear hz
    go_wp2_with fail
    refine HSk.o.mono ?_
    rintro e w9 ⟨rfl,hr9,hm9⟩
    have HR9:=I hr9
    have HM9:=I (HM2.o.trans hm9)
    clear hr9 hm9 HSk
    go_wp2
    rw[hE.o]
    go_ret3
    exact⟨rfl,HR9.o,HM9.o⟩
def mV(b:Nat)(x:Addr)(c:Nat)(l:List Int)(d:Int)(w:World)(R:RT)(e:Ending)(w':World):Prop:=
 (∃t k,R=.ok (t,k)/\e=.returned (aZ t)/\RB w' b x c l k d/\Mv b w w')\/(∃z,R=.error z/\e=bK z/\Mv b w w')
theorem AZ{b:Nat}{x:Addr}{c:Nat}{l:List Int}{i:Nat}{d:Int}(w:World)(h:RB w b x c l i d):Calls prog 109 #[.pointer (some ⟨b,0,none⟩)] w fun e w'=>mV b x c l d w (cR d l i) e w':=by
 have hlt:=h.lt
 have hxw:=h.xw
 have hat:=h.at'
 have hw0:=h.alloc (aq {})
 have HB:=I (xL _ hw0)
 obtain⟨c0,c1,c2,f1⟩:=h.cells
 obtain⟨lo,hi,ok,pos,hbb⟩:∃lo hi ok pos,ch d l i=(lo,hi,ok,pos):=⟨_,_,_,_,rfl⟩
 have HBB:=I hbb
 rw[hbb]at HB
 simp only[aq]at HB
 clear hbb hw0 h
 cases ok with
 |false=>
  by_cases hd:d=1
  ·subst hd
   have hE:Hid (cR 1 l i=.ok (aM 123,i)):=by show _=_;unfold cR;rw[HBB.o];simp
   go_enter func109,ntmps109
   go_wp2_with fail
   refine HB.o.mono ?_
   rintro e w1 ⟨rfl,hr,hm⟩
   obtain⟨d0,d1,d2,g1⟩:=hr.cells
   have hr1:=hr.go i hat
   have hm1:=hm.setCell 1 (.int .i64 i)
   clear c0 c1 c2 f1
   go_wp2_with fail
   refine(dM 123 _).mono ?_
   rintro e w2 ⟨rfl,hb2⟩
   have hr2:=hr1.ar hb2
   have hm2:=hm1.trans (Mv.ae hb2)
   have hN:w2.heap[w.heap.size]? =some (aq {}):=hm2.aC (aj _ _) (by omega)
   obtain⟨m0,m1,m2,m3,m4,m5,m6,m7⟩:=ai hN
   have fr0:=au hN
   have HRR:=I hr2
   have HMM:=I hm2
   clear hr hm hr2 hm2 hr1 hm1 hb2 d0 d1 d2 g1 HB
   unfold aZ
   go_wp2
   refine bodyPost_ret (v:=aZ (aM 123)) (by simp[results,results109,go_sem,aZ,m0,m1,m2,m3,m4,m5,m6,m7]) rfl (.inl ⟨(aM 123),i,hE.o,rfl,HRR.o.tok (by omega) (by omega) _ _ _ _ _ _ _ _,Mv.tok (((Mv.refl b w).alloc _).trans HMM.o) (U _) _ _ _ _ _ _ _ _⟩)
  ·have hE:Hid (cR d l i=.error 1):=by show _=_;unfold cR;rw[HBB.o];simp[hd]
   have hdb:(d==1)=false:=by simpa using hd
   go_enter func109,ntmps109
   go_wp2_with fail
   refine HB.o.mono ?_
   rintro e w1 ⟨rfl,hr,hm⟩
   obtain⟨d0,d1,d2,g1⟩:=hr.cells
   clear c0 c1 c2 f1 HB hr
   have HMM:=I hm
   clear hm
   go_wp2
   exact⟨rfl,.inr ⟨1,hE.o,rfl,((Mv.refl b w).alloc _).trans HMM.o⟩⟩
 |true=>
  have hend:∀(R:RT),cR d l i=R->Hid (cR d l i=R):=fun _ h=>h
  by_cases h1:hi≠ -1/\lo>hi
  ·obtain ⟨h1a,h1b⟩:=h1
   have hE:Hid (cR d l i=.error 3):=by show _=_;unfold cR;rw[HBB.o];simp[h1a,h1b]
   have hnb:(hi != -1)=true:=by simpa using h1a
   have hlt2:hi<lo:=h1b
   go_enter func109,ntmps109
   go_wp2_with fail
   refine HB.o.mono ?_
   rintro e w1 ⟨rfl,hr,hm⟩
   clear c0 c1 c2 f1 HB hr
   have HMM:=I hm
   clear hm
   go_wp2
   exact⟨rfl,.inr ⟨3,hE.o,rfl,((Mv.refl b w).alloc _).trans HMM.o⟩⟩
  ·by_cases h2:lo>100\/hi>100
   ·have hE:Hid (cR d l i=.error 2):=by show _=_;unfold cR;rw[HBB.o];simp only[Bool.true_eq_false,if_false];rw[if_neg h1,if_pos h2]
    by_cases hn:hi= -1
    ·subst hn
     have hlo:100<lo:=by omega
     go_enter func109,ntmps109
     go_wp2_with fail
     refine HB.o.mono ?_
     rintro e w1 ⟨rfl,hr,hm⟩
     clear c0 c1 c2 f1 HB hr h1 h2
     have HMM:=I hm
     clear hm
     go_wp2
     exact⟨rfl,.inr ⟨2,hE.o,rfl,((Mv.refl b w).alloc _).trans HMM.o⟩⟩
    ·have hnb:(hi != -1)=true:=by simpa using hn
     have hle:¬hi<lo:=by omega
     have hhi:100<hi:=by omega
     go_enter func109,ntmps109
     go_wp2_with fail
     refine HB.o.mono ?_
     rintro e w1 ⟨rfl,hr,hm⟩
     clear c0 c1 c2 f1 HB hr h1 h2
     have HMM:=I hm
     clear hm
     go_wp2
     all_goals exact⟨rfl,.inr ⟨2,hE.o,rfl,((Mv.refl b w).alloc _).trans HMM.o⟩⟩
   ·have hE:Hid (cR d l i=.ok ((cD d l pos lo hi).1,(cD d l pos lo hi).2)):=by show _=_;unfold cR;rw[HBB.o];simp only[Bool.true_eq_false,if_false];rw[if_neg h1,if_neg h2]
    have hl1:¬100<lo:=by omega
    have hl2:¬100<hi:=by omega
    by_cases hn:hi= -1
    ·subst hn
     go_enter func109,ntmps109
     go_wp2_with fail
     refine HB.o.mono ?_
     rintro e w1 ⟨rfl,hr1,hm1⟩
     clear c0 c1 c2 f1 HB h1 h2
     go_wp2_with fail
     refine(fa lo (-1) w1 hr1).mono ?_
     rintro e w2 ⟨rfl,hr,hm2⟩
     have hm:=hm1.trans hm2
     generalize cD d l pos lo (-1)=rt at*
     obtain⟨t,k⟩:=rt
     simp only at hr hE |-
     have hN:w2.heap[w.heap.size]? =some (aq {}):=hm.aC (aj _ _) (by omega)
     obtain⟨m0,m1,m2,m3,m4,m5,m6,m7⟩:=ai hN
     have fr0:=au hN
     have HRR:=I hr
     have HMM:=I hm
     clear hr hm hr1 hm1 hm2
     unfold aZ
     go_wp2
     refine bodyPost_ret (v:=aZ t) (by simp[results,results109,go_sem,aZ,m0,m1,m2,m3,m4,m5,m6,m7]) rfl (.inl ⟨t,k,hE.o,rfl,HRR.o.tok (by omega) (by omega) _ _ _ _ _ _ _ _,Mv.tok (((Mv.refl b w).alloc _).trans HMM.o) (U _) _ _ _ _ _ _ _ _⟩)
    ·have hnb:(hi != -1)=true:=by simpa using hn
     have hle:¬hi<lo:=by omega
     go_enter func109,ntmps109
     go_wp2_with fail
     refine HB.o.mono ?_
     rintro e w1 ⟨rfl,hr1,hm1⟩
     clear c0 c1 c2 f1 HB h1 h2
     go_wp2_with fail
     refine(fa lo hi w1 hr1).mono ?_
     rintro e w2 ⟨rfl,hr,hm2⟩
     have hm:=hm1.trans hm2
     generalize cD d l pos lo hi=rt at*
     obtain⟨t,k⟩:=rt
     simp only at hr hE |-
     have hN:w2.heap[w.heap.size]? =some (aq {}):=hm.aC (aj _ _) (by omega)
     obtain⟨m0,m1,m2,m3,m4,m5,m6,m7⟩:=ai hN
     have fr0:=au hN
     have HRR:=I hr
     have HMM:=I hm
     clear hr hm hr1 hm1 hm2
     unfold aZ
     go_wp2
     refine bodyPost_ret (v:=aZ t) (by simp[results,results109,go_sem,aZ,m0,m1,m2,m3,m4,m5,m6,m7]) rfl (.inl ⟨t,k,hE.o,rfl,HRR.o.tok (by omega) (by omega) _ _ _ _ _ _ _ _,Mv.tok (((Mv.refl b w).alloc _).trans HMM.o) (U _) _ _ _ _ _ _ _ _⟩)
end Go.Proofs.YtklbbbldalmnbaaGreatDoor.TK
