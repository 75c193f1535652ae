import Derived.Test.YtfnndcbjklppeaaGreatDoorXB2
import Derived.Test.YtfnndcbjklppeaaGreatDoorYE2
import Derived.Test.YtfnndcbjklppeaaGreatDoorYF2
import Derived.Deep.Cut
import Derived.Test.YtfnndcbjklppeaaGreatDoorVO2
import Derived.Test.YtfnndcbjklppeaaGreatDoorXA2
set_option maxHeartbeats 8000000
set_option maxRecDepth 100000
set_option linter.unusedVariables false
open Go.Proofs.Tryz
namespace Go.Proofs.YtfnndcbjklppeaaGreatDoor
open Go.RowKit
theorem rightNode_kind(n:NV)(t:Tr)(w:World)(h:NodeC w n t)(hsm:t.kids.length≤4611686018427387904)(hkd:¬(1≤n.kind∧n.kind≤18)):Calls prog 46 #[nvV n] w fun e w'=>e=.returned (.int .i64 (rnE t))∧Below w.heap.size w w':=by
 have hb1:Below w.heap.size w (w.alloc (nvO n)):=allocB w _
 have HN:=hide h
 have HN1:=hide (h.keep hb1)
 obtain⟨k0,k1,k2,k3,k4,k5,hr, -⟩:=h.open
 obtain⟨K,hK1,hK2,hK3,hK4⟩:=kids_list h
 obtain⟨w1,hw1⟩:=named (w.alloc (nvO n))
 have hX1:w1.heap[w.heap.size]? =some (nvO n):=by rw[hw1];exact at_new _ _
 rw[← hw1]at hb1 HN1
 have HB1:=hide hb1
 have HX:=hide hX1
 have HS:=hide (fun W (hW:Below w.heap.size w W)=>checkSet_any _ _ W (hr.below hW))
 have HK2:=hide hK2
 have HKc:Hid (K.length=0∨∃x,n.ka=some x∧∀i (hi:i<K.length),NCells w1 (x.add (i*8)) K[i].1):=by
  rcases hK4 with h0|⟨x,hx,hc⟩
  ·exact .inl h0
  ·exact .inr ⟨x,hx,fun i hi=>(hc i hi).below hb1⟩
 have HKl:=hide hK3
 have HKm:=hide hK1
 obtain⟨d0,d1,d2,d3,d4,d5,d6,d7⟩:=nv_cells hX1
 have hkb:n.kl≤4611686018427387904:=by rw[hK3, ←List.length_map (f:=fun x:NV×Tr=>x.2),hK1];exact hsm
 obtain⟨R,hR⟩:=named (rnE t)
 have HR7:Hid (¬(1≤n.kind∧n.kind≤18)→R=7):=fun hh=>by rw[hR];unfold rnE;rw[k0,if_pos hh]
 have HR1:Hid (1≤n.kind∧n.kind≤18→fr6 n t.kids=true→R=1):=fun hh hf=>by
  rw[fr6_is h hh]at hf
  rw[hR];unfold rnE;rw[k0,if_neg (by simpa using hh),if_pos (by simpa only[Bool.not_eq_true']using hf)]
 have HRo:Hid (1≤n.kind∧n.kind≤18→fr6 n t.kids=false→R=if checkE t.set≠0 then checkE t.set else if n.kind=12 then repE t else 0):=fun hh hf=>by
  rw[fr6_is h hh]at hf
  rw[hR];unfold rnE;rw[k0,if_neg (by simpa using hh),if_neg (by rw[Bool.not_eq_false']at hf;rw[hf];simp)]
 have HE:Hid (repE t=if ¬(0≤n.least∧n.least≤100)then 3 else if ¬(n.most= -1∨(n.least≤n.most∧n.most≤100))then 3 else if ¬(1≤n.way∧n.way≤3)then 7 else 0):=by show _=_;unfold repE;rw[k2,k3,k4]
 have HSl:Hid (fr6 n t.kids=false→n.kind≠2→checkE t.set=0):=fun hf h2=>by
  have:n.sl=0:=by
   unfold fr6 fr5 fr4 fr3 fr2 at hf
   simp at hf
   have:=hf.1.1.1.1.2
   omega
  have h0:=hr.len
  have:t.set=[]:=List.eq_nil_of_length_eq_zero (by omega)
  rw[this];rfl
 rw[← hR]
 have HKO:=hide (fun W=>kidsOf_any n.kind W)
 obtain⟨le,hle⟩:=named ((kidsL n.kind).1)
 obtain⟨mo,hmo⟩:=named ((kidsL n.kind).2)
 rw[← hle, ←hmo]at HKO
 have HF1:Hid (fr1 n=(decide ((n.kl:Int)<le)||(decide (0≤mo)&&decide (mo<(n.kl:Int))))):=by show _=_;unfold fr1;rw[hle,hmo]
 simp only[nvO]at hw1
 clear h hb1 hX1 k0 k1 k2 k3 k4 k5 hr hK1 hK2 hK3 hK4 hR hle hmo
 have hE:=HR7.out hkd
 subst hE
 clear HR7 HR1 HRo HE HSl
 go_enter func46,ntmps46
 go_upto_region 1 with fail
 rw[← hw1]
 clear hw1
 by_cases g1:n.kind<1
 ·clear hkd
  go_wp2
  go_ret
  exact⟨rfl,HB1.out⟩
 ·have g2:18<n.kind:=by omega
  clear hkd
  go_wp2
  go_ret
  exact⟨rfl,HB1.out⟩
theorem rightNode_any(n:NV)(t:Tr)(w:World)(h:NodeC w n t)(hsm:t.kids.length≤4611686018427387904):Calls prog 46 #[nvV n] w fun e w'=>e=.returned (.int .i64 (rnE t))∧Below w.heap.size w w':=by
 by_cases hkd:1≤n.kind∧n.kind≤18
 ·cases hf:fr6 n t.kids with
  |true=>
   cases h5:fr5 n with
   |true=>exact rightNode_badA n t w h hsm hkd h5
   |false=>exact rightNode_badB n t w h hsm hkd h5 hf
  |false=>exact rightNode_good n t w h hsm hkd hf
 ·exact rightNode_kind n t w h hsm hkd
def ckF:List Tr→Int→Except Int Int
 |[],g=>.ok g
 |t::ts,g=>if rnE t≠0 then .error (rnE t)else if t.kind=11 then(if t.num=g+1 then ckF ts (g+1)else .error 4)else ckF ts g
theorem ckF_cons(t:Tr)(ts:List Tr)(g:Int):ckF (t::ts) g=if rnE t≠0 then .error (rnE t)else if t.kind=11 then(if t.num=g+1 then ckF ts (g+1)else .error 4)else ckF ts g:=rfl
theorem ckF_append:∀(a b:List Tr) (g:Int),ckF (a++b) g=match ckF a g with| .error z=>.error z| .ok g'=>ckF b g'
 |[],b,g=>rfl
 |t::a,b,g=>by
  rw[List.cons_append,ckF_cons,ckF_cons]
  split
  ·rfl
  ·split
   ·split
    ·exact ckF_append a b _
    ·rfl
   ·exact ckF_append a b _
def agF(l:List Tr):List Int:=(l.filter (fun t=>decide (t.kind=18))).map Tr.num
theorem agF_append(a b:List Tr):agF (a++b)=agF a++agF b:=by simp[agF]
theorem nodeS_ck(t:Tr)(s:St):nodeS t s=match ckF [t] s.1 with| .error z=>.error z| .ok g'=>.ok (g',s.2++agF [t]):=by
 rw[ckF_cons]
 unfold nodeS
 by_cases h1:1≤t.kind∧t.kind≤18
 ·rw [if_neg (fun hh=>hh h1)]
  by_cases h2:(kidsB t&&fieldsB t)=false
  ·have hr:rnE t=1:=by unfold rnE;rw[if_neg (fun hh=>hh h1),if_pos h2]
   rw[if_pos h2,hr];rfl
  ·rw [if_neg h2]
   by_cases h3:checkE t.set≠0
   ·have hr:rnE t=checkE t.set:=by unfold rnE;rw[if_neg (fun hh=>hh h1),if_neg h2,if_pos h3]
    rw[if_pos h3,hr,if_pos h3]
   ·rw [if_neg h3]
    by_cases h4:t.kind=12
    ·have hr:rnE t=repE t:=by unfold rnE;rw[if_neg (fun hh=>hh h1),if_neg h2,if_neg h3,if_pos h4]
     rw[if_pos h4,hr]
     by_cases h5:repE t=0
     ·rw [if_pos h5,if_neg (fun hh=>hh h5),if_neg (by omega)]
      simp[ckF,agF,h4]
     ·rw[if_neg h5,if_pos h5]
    ·have hr:rnE t=0:=by unfold rnE;rw[if_neg (fun hh=>hh h1),if_neg h2,if_neg h3,if_neg h4]
     rw[if_neg h4,hr,if_neg (show ¬((0:Int)≠0)from fun hh=>hh rfl)]
     by_cases h5:t.kind=11
     ·rw [if_pos h5,if_pos h5]
      by_cases h6:t.num=s.1+1
      ·rw[if_pos h6,if_pos h6];simp[ckF,agF,h5]
      ·rw[if_neg h6,if_neg h6]
     ·rw [if_neg h5,if_neg h5]
      by_cases h6:t.kind=18
      ·rw[if_pos h6];simp[ckF,agF,h6]
      ·rw[if_neg h6];simp[ckF,agF,h6]
 ·have hr:rnE t=7:=by unfold rnE;rw[if_pos h1]
  rw[if_pos h1,hr];rfl
mutual
theorem chkT_ck:∀(t:Tr) (s:St),chkT t s=match ckF (flatT t) s.1 with| .error z=>.error z| .ok g'=>.ok (g',s.2++agF (flatT t))
 | .mk k a b c d e f kids,s=>by
  obtain⟨T,hT⟩:=named (Tr.mk k a b c d e f kids)
  have e1:flatT (Tr.mk k a b c d e f kids)=[T]++flatL kids:=by rw[hT];rfl
  rw[chkT_kids,nodeS_ck,e1,ckF_append, ←hT]
  cases hc:ckF [T] s.1 with
  |error z=>rfl
  |ok g=>
   have e2:T.kids=kids:=by rw[hT];rfl
   simp only
   rw[e2,chkL_ck kids,agF_append,List.append_assoc]
theorem chkL_ck:∀(ts:List Tr) (s:St),chkL ts s=match ckF (flatL ts) s.1 with| .error z=>.error z| .ok g'=>.ok (g',s.2++agF (flatL ts))
 |[],s=>by simp[chkL,flatL,ckF,agF]
 |t::ts,s=>by
  unfold chkL
  rw[chkT_ck t s,flatL,ckF_append]
  cases hc:ckF (flatT t) s.1 with
  |error z=>rfl
  |ok g=>simp only;rw[chkL_ck ts,agF_append,List.append_assoc]
end
def patR(x:Except Int Int)(g:Int)(A:List Int):Int:=match x with
 | .error z=>z
 | .ok k=>if 20<k then 2 else if k=g then numsE k A else 4
theorem treeE_ck(t:Tr)(g:Int):treeE t g=patR (ckF (flatT t) 0) g (agF (flatT t)):=by
 unfold treeE patR
 rw[chkT_ck]
 cases hc:ckF (flatT t) ((0,[]):St).1 with
 |error z=>rfl
 |ok k=>
  simp only[countsE,List.nil_append]
  by_cases h1:20<k
  ·simp[h1]
  ·by_cases h2:k=g
   ·subst h2;simp[h1]
   ·simp[h1,h2]
mutual
theorem sm_flat:∀t:Tr,smT t→∀u∈flatT t,smT u
 | .mk k a b c d e f kids,h,u,hu=>by
  rw[flatT]at hu
  rcases List.mem_cons.1 hu with rfl|hu
  ·exact h
  ·exact sm_flatL kids (by rw[smT_kids]at h;exact h.2) u hu
theorem sm_flatL:∀ts:List Tr,smL ts→∀u∈flatL ts,smT u
 |[],h,u,hu=>by cases hu
 |t::ts,h,u,hu=>by
  rw[flatL]at hu
  rcases List.mem_append.1 hu with hu|hu
  ·exact sm_flat t h.1 u hu
  ·exact sm_flatL ts h.2 u hu
end
structure FlatR(w0:World)(B:Nat)(w:World)(v:Value)(F:List (NV×Tr))(t:Tr):Prop where
 fl:F.map (·.2)=flatT t
 nd:∀x∈F,NodeC w0 x.1 x.2
 own:w.ownsRow B 32 8 v F.length (rowN F)
theorem FlatR.len{w0:World}{B:Nat}{w:World}{v:Value}{F:List (NV×Tr)}{t:Tr}(h:FlatR w0 B w v F t):F.length=szT t:=by
 have:=congrArg List.length h.fl
 rw[List.length_map,flat_len]at this
 exact this
theorem FlatR.get{w0:World}{B:Nat}{w:World}{v:Value}{F:List (NV×Tr)}{t:Tr}(h:FlatR w0 B w v F t){j:Nat}(hj:j<F.length):∃(h2:j<(flatT t).length),(flatT t)[j]=F[j].2∧F[j].2.kind=F[j].1.kind∧F[j].2.num=F[j].1.num:=by
 have h2:j<(flatT t).length:=by rw[flat_len, ←h.len];exact hj
 refine⟨h2,?_,?_,?_⟩
 ·have e:(F.map (·.2))[j]'(by simpa using hj)=(flatT t)[j]:=by simp only[h.fl]
  rw[← e];simp
 ·exact(h.nd F[j] (List.getElem_mem _)).open.1
 ·exact(h.nd F[j] (List.getElem_mem _)).open.2.1
theorem FlatR.form{w0:World}{B:Nat}{w:World}{v:Value}{F:List (NV×Tr)}{t:Tr}(h:FlatR w0 B w v F t):∃g cap,v=.slice (some ⟨g,0,none⟩) F.length cap∧∀j (hj:j<F.length),NCells w ⟨g,j*8,none⟩ F[j].1:=by
 obtain⟨g,cap,rfl,_,_⟩:=h.own.form (by rw[h.len];exact szT_pos t)
 exact⟨g,cap,rfl,fun j hj=>rowN_cells h.own hj⟩
theorem FlatR.keep{w0:World}{B:Nat}{w w':World}{v:Value}{F:List (NV×Tr)}{t:Tr}(h:FlatR w0 B w v F t)(hb:Below w.heap.size w w'):FlatR w0 B w' v F t:=⟨h.fl,h.nd,own_keep h.own hb⟩
theorem flat_any'{w0:World}{n:NV}{t:Tr}(h:NodeC w0 n t)(hsz:szT t≤1000)(w:World)(hw0:Below w0.heap.size w0 w):Calls prog 24 #[nvV n] w fun e w'=>∃v F,e=.returned v∧FlatR w0 w.heap.size w' v F t∧Below w.heap.size w w':=
 (flat_any h hsz w hw0).mono fun e w' ⟨v,F,h1,h2,h3,h4,h5⟩=>⟨v,F,h1,⟨h2,h3,h4⟩,h5⟩
theorem ckF_drop{l:List Tr}{j:Nat}(hj:j<l.length)(g:Int):ckF (l.drop j) g=if rnE l[j]≠0 then .error (rnE l[j])else if l[j].kind=11 then(if l[j].num=g+1 then ckF (l.drop (j+1)) (g+1)else .error 4)else ckF (l.drop (j+1)) g:=by
 rw[List.drop_eq_getElem_cons hj,ckF_cons]
theorem agF_drop{l:List Tr}{j:Nat}(hj:j<l.length):agF (l.drop j)=if l[j].kind=18 then l[j].num::agF (l.drop (j+1))else agF (l.drop (j+1)):=by
 rw[List.drop_eq_getElem_cons hj]
 unfold agF
 rw[List.filter_cons]
 by_cases h:l[j].kind=18<;>simp[h]
theorem checkPat_nil{w0:World}{n:NV}{t:Tr}(h:NodeC w0 n t)(hsm:smT t)(g:Int)(w:World)(hw0:Below w0.heap.size w0 w):Calls prog 23 #[patV n g] w fun e w'=>e=.returned (.int .i64 (checkP t g))∧Below w.heap.size w w':=by
 have hb1:Below w.heap.size w (w.alloc (patO n g)):=allocB w _
 obtain⟨w1,hw1⟩:=named (w.alloc (patO n g))
 have hX1:w1.heap[w.heap.size]? =some (patO n g):=by rw[hw1];exact at_new _ _
 rw[← hw1]at hb1
 have HB1:=hide hb1
 have HX1:=hide hX1
 have HW0:=hide hw0
 have HTG:=hide (tooGreat_any h hsm w1 (hw0.andT hb1))
 have HFl:=hide (fun hs W hW=>flat_any' h hs W hW)
 have HSm:=hide (sm_flat t hsm)
 obtain⟨⟨d0,d1,d2,d3,d4,d5,d6,d7⟩,d8,d9⟩:=pat_cells hX1
 obtain⟨R,hR⟩:=named (checkP t g)
 have HRb:Hid (¬cntA t<1001→R=2):=fun hh=>by rw[hR];unfold checkP;rw[if_neg hh]
 have HRg:Hid (cntA t<1001→R=patR (ckF (flatT t) 0) g (agF (flatT t))):=fun hh=>by rw[hR];unfold checkP;rw[if_pos hh,treeE_ck]
 rw[← hR]
 simp only[patO]at hw1
 clear h hsm hw0 hb1 hX1 hR
 by_cases hlt:cntA t<1001
 ·have hRg := HRg.out hlt
  have hsz:=cntA_sz hlt
  rw[show (!decide (cntA t<1001))=false by simp[hlt]]at HTG
  have HR:=hide hRg
  have HSz:=hide hsz
  clear HRb HRg hRg hsz hlt
  go_enter func23,ntmps23
  go_wp2_with fail
  rw[← hw1]
  clear hw1
  refine HTG.out.mono ?_
  rintro e w2 ⟨rfl,hb2⟩
  have HB2:=hide (HB1.out.andT hb2)
  have HX2:=hide (show w2.heap[w.heap.size]? =some (patO n g) by rw[hb2.block _ (lt_of_block HX1.out)];exact HX1.out)
  clear hb2 HTG HB1 HX1 d0 d1 d2 d3 d4 d5 d6 d7 d8 d9
  obtain⟨⟨d0,d1,d2,d3,d4,d5,d6,d7⟩,d8,d9⟩:=pat_cells HX2.out
  have HFl2:=hide (HFl.out HSz.out w2 (HW0.out.andT HB2.out))
  clear HFl
  go_wp2_with fail
  refine HFl2.out.mono ?_
  rintro e w3 ⟨v,F,rfl,hF,hb3⟩
  have HB3:=hide (HB2.out.andT hb3)
  have HX3:=hide (show w3.heap[w.heap.size]? =some (patO n g) by rw[hb3.block _ (lt_of_block HX2.out)];exact HX2.out)
  have hlen:=hF.len
  obtain⟨gr,cap,hv,_⟩:=hF.form
  rw[hv]at hF ⊢
  obtain⟨m,hm⟩:=named F.length
  have hm1:m≤1000:=by have:=HSz.out;omega
  have HM:=hide hm
  rw[← hm]at hF ⊢
  have HF:=hide hF
  obtain⟨B,hB⟩:=named w2.heap.size
  rw[← hB]at HF
  have hfl:(flatT t).length=m:=by rw[flat_len];omega
  have HLen:=hide hfl
  clear hF hv hlen hb3 HB2 HX2 d0 d1 d2 d3 d4 d5 d6 d7 d8 d9 hm HFl2 hB hfl
  go_wp2
  go_loopw [4,5] (fun a c wr=>∃(j:Nat) (q:Int),j≤m∧c=.int .i64 j∧a=.int .i64 q∧(0≤q∧q≤j)∧ckF (flatT t) 0=ckF ((flatT t).drop j) q∧FlatR w0 B wr (.slice (some ⟨gr,0,none⟩) m cap) F t∧wr.heap[w.heap.size]? =some (patO n g)∧Below w.heap.size w wr) (fun _ c _=>m - (intOf c).toNat)
  case atStart=>exact⟨0,0,Nat.zero_le _,rfl,rfl,⟨Int.le_refl _,by omega⟩,by simp,HF.out,HX3.out,HB3.out⟩
  case round=>
   obtain⟨j,q,hj,rfl,rfl,hq,hC,hF,hx,hb⟩:=hrel
   obtain⟨w4,hw4⟩:=named wr
   subst hw4
   have HC:=hide hC
   have HF4:=hide hF
   have HX4:=hide hx
   have HB4:=hide hb
   clear hC hF hx hb HF HX3 HB3
   by_cases hlt:j<m
   ·have hjF:j<F.length:=by have:=HM.out;omega
    obtain⟨h2,hg1,hg2,hg3⟩:=HF4.out.get hjF
    obtain⟨gr',cap',hv',hcl⟩:=HF4.out.form
    have hgr:gr'=gr:=by injection hv' with h1;injection h1 with h1;injection h1 with h1;exact h1.symm
    rw[hgr]at hcl
    clear hv' hgr
    have hcj:=hcl j hjF
    have hN:NodeC w0 F[j].1 F[j].2:=HF4.out.nd _ (List.getElem_mem _)
    have hD:=ckF_drop h2 q
    rw[hg1,hg2,hg3]at hD
    have hsx:F[j].2.kids.length≤4611686018427387904:=by
     have:=HSm.out (flatT t)[j] (List.getElem_mem _)
     rw[hg1,smT_kids]at this
     exact this.1
    have hB0:Below w0.heap.size w0 w4:=HW0.out.andT HB4.out
    have HRN:=hide (rightNode_any F[j].1 F[j].2 w4 (hN.keep hB0) hsx)
    obtain⟨xn,hxn⟩:=named (F[j].1)
    obtain⟨z,hz⟩:=named (rnE F[j].2)
    rw[← hxn, ←hz]at HRN hD
    rw[← hxn]at hcj
    have HD:=hide hD
    have HXn:=hide hxn
    obtain⟨f0,f1,f2,f3,f4,f5,f6,f7⟩:=hcj
    simp only at f1 f2 f3 f4 f5 f6 f7
    have e1:(j:Int)<(m:Int):=by omega
    have e2:(0:Int)≤(j:Int):=by omega
    clear h2 hg1 hg2 hg3 hcl hN hD hsx hB0 hxn hz
    go_wp2_with fail
    refine HRN.out.mono ?_
    rintro e w5 ⟨rfl,hb5⟩
    have HB5:=hide (HB4.out.andT hb5)
    have HX5:=hide (show w5.heap[w.heap.size]? =some (patO n g) by rw[hb5.block _ (lt_of_block HX4.out)];exact HX4.out)
    have HF5:=hide (HF4.out.keep hb5)
    obtain⟨gr',cap',hv',hcl⟩:=HF5.out.form
    have hgr:gr'=gr:=by injection hv' with h1;injection h1 with h1;injection h1 with h1;exact h1.symm
    rw[hgr]at hcl
    clear hv' hgr
    have hcj:=hcl j hjF
    rw[← HXn.out]at hcj
    have c0:=hcj.c0
    have c3:=hcj.c3
    simp only at c3
    clear hb5 HRN HF4 HX4 HB4 f0 f1 f2 f3 f4 f5 f6 f7 hcl hcj
    by_cases hz0:z=0
    ·subst hz0
     by_cases h11:xn.kind=11
     ·have b11:(xn.kind==11)=true:=by simpa using h11
      have hqw:IntKind.i64.wrap (q+1)=q+1:=by rw[IntKind.wrap_i64];omega
      by_cases hnm:xn.num=q+1
      ·have hN2:Hid (ckF (flatT t) 0=ckF ((flatT t).drop (j+1)) (q+1)):=by show _=_;rw[HC.out,HD.out,if_neg (fun hh=>hh rfl),if_pos h11,if_pos hnm]
       have bn:(xn.num==q+1)=true:=by simpa using hnm
       have bn2:(xn.num !=q+1)=false:=by simpa using hnm
       clear h11 hnm
       go_wp2
       go_roundw
       case rel=>exact⟨j+1,q+1,by omega,by go_num,by go_num,⟨by omega,by omega⟩,hN2.out,HF5.out,HX5.out,HB5.out⟩
       case measure=>simp[intOf];omega
      ·have hE:Hid (R=4):=by show _=_;rw[HR.out,HC.out,HD.out,if_neg (fun hh=>hh rfl),if_pos h11,if_neg hnm];rfl
       have bn:(xn.num==q+1)=false:=by simpa using hnm
       have bn2:(xn.num !=q+1)=true:=by simpa using hnm
       clear h11 hnm
       go_wp2
       go_ret
       exact⟨by rw[hE.out];rfl,HB5.out⟩
     ·have hN2:Hid (ckF (flatT t) 0=ckF ((flatT t).drop (j+1)) q):=by show _=_;rw[HC.out,HD.out,if_neg (fun hh=>hh rfl),if_neg h11]
      have b11:(xn.kind==11)=false:=by simpa using h11
      clear h11
      go_wp2
      go_roundw
      case rel=>exact⟨j+1,q,by omega,by go_num,rfl,⟨by omega,by omega⟩,hN2.out,HF5.out,HX5.out,HB5.out⟩
      case measure=>simp[intOf];omega
    ·have hE:Hid (R=z):=by show _=_;rw[HR.out,HC.out,HD.out,if_pos hz0];rfl
     have bz:(z==0)=false:=by simpa using hz0
     have bz2:(z !=0)=true:=by simpa using hz0
     clear hz0
     go_wp2
     go_ret
     exact⟨by rw[hE.out];rfl,HB5.out⟩
   ·have e1 :¬(j:Int)<(m:Int):=by omega
    have hE:R=if 20<q then 2 else if q=g then numsE q (agF (flatT t))else 4:=by
     rw[HR.out,HC.out,List.drop_eq_nil_of_le (by rw[HLen.out];omega)];rfl
    obtain⟨-,d8,d9⟩:=pat_cells HX4.out
    have hq20:q≤1000:=by omega
    clear HR HC
    by_cases h20:20<q
    ·rw [if_pos h20]at hE
     subst hE
     go_wp2
     go_ret
     exact⟨rfl,HB4.out⟩
    ·rw [if_neg h20]at hE
     by_cases hgq:q=g
     ·rw [if_pos hgq]at hE
      have bq:(g==q)=true:=by simpa using hgq.symm
      have bq2:(g !=q)=false:=by simpa using hgq.symm
      have HE:=hide hE
      have HGQ:=hide hgq
      clear hE hgq
      go_wp2
      go_loopw [7] (fun c wr=>∃(j:Nat),j≤m∧c=.int .i64 j∧numsE q (agF (flatT t))=numsE q (agF ((flatT t).drop j))∧wr=w4) (fun c _=>m - (intOf c).toNat)
      case atStart=>exact⟨0,Nat.zero_le _,rfl,by simp,rfl⟩
      case round=>
       obtain⟨j2,hj2,rfl,hA,hwr⟩:=hrel
       obtain⟨w5,hw5⟩:=named wr
       rw[← hw5]at hwr ⊢
       subst hwr
       clear hw5
       have HA:=hide hA
       clear hA
       by_cases hlt2:j2<m
       ·have hjF:j2<F.length:=by have:=HM.out;omega
        obtain⟨h2,hg1,hg2,hg3⟩:=HF4.out.get hjF
        obtain⟨gr',cap',hv',hcl⟩:=HF4.out.form
        have hgr:gr'=gr:=by injection hv' with h1;injection h1 with h1;injection h1 with h1;exact h1.symm
        rw[hgr]at hcl
        have hcj:=hcl j2 hjF
        have hD:=agF_drop h2
        rw[hg1,hg2,hg3]at hD
        obtain⟨xn,hxn⟩:=named (F[j2].1)
        rw[← hxn]at hD hcj
        have c0:=hcj.c0
        have c3:=hcj.c3
        simp only at c3
        have HD:=hide hD
        have f1:(j2:Int)<(m:Int):=by omega
        have f2:(0:Int)≤(j2:Int):=by omega
        clear h2 hg1 hg2 hg3 hv' hgr hcl hcj hD hxn
        by_cases h18:xn.kind=18
        ·have b18:(xn.kind==18)=true:=by simpa using h18
         have HQ:=hide (q_betw xn.num 1 q w5)
         have hN:Hid (numsE q (agF (flatT t))=if numE q xn.num=0 then numsE q (agF ((flatT t).drop (j2+1)))else 5):=by show _=_;rw[HA.out,HD.out,if_pos h18];rfl
         by_cases hb:1≤xn.num∧xn.num≤q
         ·rw [show decide (1≤xn.num∧xn.num≤q)=true by simpa using hb]at HQ
          have hN2:Hid (numsE q (agF (flatT t))=numsE q (agF ((flatT t).drop (j2+1)))):=by show _=_;rw[hN.out,if_pos (by unfold numE;rw[if_pos hb])]
          clear h18 hb
          go_wp2_with fail
          refine HQ.out.mono ?_
          rintro e w6 ⟨rfl,hh⟩
          subst hh
          go_wp2
          go_roundw
          case rel=>exact⟨j2+1,by omega,by go_num,hN2.out,trivial⟩
          case measure=>simp[intOf];omega
         ·rw [show decide (1≤xn.num∧xn.num≤q)=false by simpa using hb]at HQ
          have hN2:Hid (R=5):=by show _=_;rw[HE.out,hN.out,if_neg (by unfold numE;rw[if_neg hb];omega)]
          clear h18 hb
          go_wp2_with fail
          refine HQ.out.mono ?_
          rintro e w6 ⟨rfl,hh⟩
          subst hh
          go_wp2
          go_ret
          exact⟨by rw[hN2.out];rfl,HB4.out⟩
        ·have b18:(xn.kind==18)=false:=by simpa using h18
         have hN:Hid (numsE q (agF (flatT t))=numsE q (agF ((flatT t).drop (j2+1)))):=by show _=_;rw[HA.out,HD.out,if_neg h18]
         clear h18
         go_wp2
         go_roundw
         case rel=>exact⟨j2+1,by omega,by go_num,hN.out,trivial⟩
         case measure=>simp[intOf];omega
       ·have f1:¬(j2:Int)<(m:Int):=by omega
        have hN:Hid (R=0):=by show _=_;rw[HE.out,HA.out,List.drop_eq_nil_of_le (by rw[HLen.out];omega)];rfl
        go_wp2
        go_loopw [8] (fun c wr=>c=.int .i64 0∧wr=w5) (fun _ _=>0)
        case atStart=>exact⟨rfl,rfl⟩
        case round=>
         obtain⟨rfl,hwr⟩:=hrel
         subst hwr
         go_wp2
         go_loopw [9] (fun c wr2=>c=.int .i64 0∧wr2=wr) (fun _ _=>0)
         case atStart=>exact⟨rfl,rfl⟩
         case round=>
          obtain⟨rfl,hwr⟩:=hrel
          subst hwr
          go_wp2
          go_loopw [10] (fun c wr3=>c=.int .i64 0∧wr3=wr) (fun _ _=>0)
          case atStart=>exact⟨rfl,rfl⟩
          case round=>
           obtain⟨rfl,hwr⟩:=hrel
           subst hwr
           go_wp2
           go_loopw [12] (fun c wr4=>c=.int .i64 1∧wr4=wr) (fun _ _=>0)
           case atStart=>exact⟨rfl,rfl⟩
           case round=>
            obtain⟨rfl,hwr⟩:=hrel
            subst hwr
            go_wp2
            go_ret
            exact⟨by rw[hN.out];rfl,HB4.out⟩
     ·have hE2:R=4:=by rw[hE,if_neg hgq]
      have bq:(g==q)=false:=by simp;omega
      have bq2:(g !=q)=true:=by simp;omega
      subst hE2
      clear hE hgq
      go_wp2
      go_ret
      exact⟨rfl,HB4.out⟩
 ·have hE:=HRb.out hlt
  subst hE
  rw[show (!decide (cntA t<1001))=true by simp;omega]at HTG
  clear HRb HRg hlt HFl
  go_enter func23,ntmps23
  go_wp2_with fail
  rw[← hw1]
  clear hw1
  refine HTG.out.mono ?_
  rintro e w2 ⟨rfl,hb2⟩
  have HB2:=hide (HB1.out.andT hb2)
  clear hb2 HTG HB1 HX1 d0 d1 d2 d3 d4 d5 d6 d7 d8 d9
  go_wp2
  go_ret
  exact⟨rfl,HB2.out⟩
end Go.Proofs.YtfnndcbjklppeaaGreatDoor
