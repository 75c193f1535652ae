import Derived.Test.YtklbbbldalmnbaaGreatDoorRD
import Derived.Deep.QuietTactic
set_option maxHeartbeats 8000000
set_option maxRecDepth 100000
set_option linter.unusedVariables false
open Go.Proofs.Tryz
namespace Go.Proofs.YtklbbbldalmnbaaGreatDoor.TR
open Go.RowKit
open Go.Lib (byteCells byteCells_append byteCells_length decDigits)
def pH(w0:World)(b:Nat)(nm:Value)(n:NV)(T:List UInt8):Prop:=∀(l:List UInt8) (W:World),Below w0.heap.size w0 W->Wr w0.heap.size b l nm W->l.length+T.length<=140737488355328->Calls prog 25 #[.pointer (some ⟨b,0,none⟩),cz n] W fun e w'=>e=.returned (.tuple #[])/\cu w0.heap.size b (l++T) nm W w'
theorem Ints.ar{w w':World}{g:Nat}{L:List Int}(h:Ints w g L)(hb:Below w.heap.size w w'):Ints w' g L:=fun j hj=>aE hb (bb (h j hj)) (h j hj)
theorem Jv{w:World}{g:Nat}{a:Int}{t:TypeId}{fr:Nat×Nat}(h:w.heap[g]? =some (.cells #[.int .i64 a] t fr)):Ints w g [a]:=fun j hj=>by
 have:j=0:=by simp at hj;omega
 subst this;simp[World.cell?,h]
theorem Jq{w:World}{g:Nat}{a b c:Int}{t:TypeId}{fr:Nat×Nat}(h:w.heap[g]? =some (.cells #[.int .i64 a,.int .i64 b,.int .i64 c] t fr)):Ints w g [a,b,c]:=fun j hj=>by
 rcases(by simp at hj;omega:j=0\/j=1\/j=2)with rfl|rfl|rfl<;>simp[World.cell?,h]
theorem nk(w0:World)(b:Nat)(nm:Value)(n:NV)(T:List UInt8)(hG:pH w0 b nm n T)(L:List Int)(m g:Nat)(hm:m=L.length)(hmx:m<=1000)(l:List UInt8)(w:World)(hg:Ints w g L)(hw0:Below w0.heap.size w0 w)(h:Wr w0.heap.size b l nm w)(hlen:l.length+(eR (L.contains n.kind) T).length<=140737488355328):
  Calls prog 61 #[.pointer (some ⟨b,0,none⟩),cz n,.slice (some ⟨g,0,none⟩) m m] w fun e w'=>e=.returned (.tuple #[])/\cu w0.heap.size b (l++eR (L.contains n.kind) T) nm w w':=by
 obtain⟨w1,hw1⟩:∃w1,w1=w.alloc (aG n):=⟨_,rfl⟩
 have hX1:w1.heap[w.heap.size]? =some (aG n):=by rw[hw1];exact aj _ _
 have hb1:Below w.heap.size w w1:=by rw[hw1];exact(J _ w).alloc (U _) _
 have hlt:=h.lt
 have hne:w.heap.size≠b:=by omega
 have hto1:cu w0.heap.size b l nm w w1:=cu.put h hb1
 have HT1:=I hto1
 have HC:=I (jM L m g n.kind w1 hm (hg.ar hb1) hmx)
 have HXk:Hid (∀W,Kp b w1 W->aL W ⟨w.heap.size,0,none⟩ n):=fun W hW=>ak (hW _ _ _ _ hne (by decide) hX1)
 have HG:Hid (∀l W,Below w0.heap.size w W->Wr w0.heap.size b l nm W->l.length+T.length<=140737488355328->Calls prog 25 #[.pointer (some ⟨b,0,none⟩),cz n] W fun e w'=>e=.returned (.tuple #[])/\cu w0.heap.size b (l++T) nm W w'):=fun l W hW=>hG l W (hw0.trans hW)
 obtain⟨d0,d1,d2,d3,d4,d5,d6,d7⟩:=ak hX1
 simp only[aG]at hw1
 simp only[cz]at HG |-
 obtain⟨kd,hkd⟩:∃kd,kd=n.kind:=⟨_,rfl⟩
 obtain⟨z,hz⟩:∃z,z=L.contains n.kind:=⟨_,rfl⟩
 rw[<- hz]at HC hlen |-
 obtain⟨bx,hbx⟩:∃bx,bx=w.heap.size:=⟨_,rfl⟩
 rw[<- hbx]at HXk d0 d1 d2 d3 d4 d5 d6 d7
 have HLen:=I hlen
 clear hG hg hw0 h hlen hX1 hb1 hlt hne hto1 hkd hz hm
 go_enter func61,ntmps61
 go_upto_region 1 with fail
 rw[<- hw1, <-hbx]
 clear hw1 hbx
 go_wp2_with fail
 refine HC.o.mono ?_
 rintro e w' ⟨rfl,hh⟩
 have hh2:=hh.symm
 subst hh2
 cases z with
 |false=>
  have hl:l.length+T.length<=140737488355328:=HLen.o
  have HN:=I (HG.o l w1 HT1.o.2.1 HT1.o.1 hl)
  clear HLen hl HC
  go_wp2_with fail
  refine HN.o.mono ?_
  rintro e w2 ⟨rfl,hto⟩
  have HT2:Hid (cu w0.heap.size b (l++eR false T) nm w w2):=HT1.o.trans hto
  clear hto HN
  go_wp2
  try simp only[Exit.inBlock,Exit.then]
  refine bodyPost_ret (results_none rfl _ _ _) rfl ?_
  exact⟨rfl,HT2.o⟩
 |true=>
  have hl:l.length+(3+(T.length+1))<=140737488355328:=by have:=HLen.o;simp[eR]at this;omega
  have HP:=I (gn w0.heap.size b l nm [40,63,58] w1 HT1.o.1 (by simp;omega))
  clear HC d0 d1 d2 d3 d4 d5 d6 d7
  simp only[List.toArray]at HP
  go_wp2_with fail
  refine HP.o.mono ?_
  rintro e w2 ⟨rfl,hto2⟩
  have HT2:=I (HT1.o.trans hto2)
  obtain⟨d0,d1,d2,d3,d4,d5,d6,d7⟩:=HXk.o w2 hto2.2.2
  have HN:=I (HG.o (l++[40,63,58]) w2 HT2.o.2.1 HT2.o.1 (by simp;omega))
  clear hto2 HP
  go_wp2_with fail
  refine HN.o.mono ?_
  rintro e w3 ⟨rfl,hto3⟩
  have HT3:=I (HT2.o.trans hto3)
  have HP2:=I (gn w0.heap.size b _ nm [41] w3 HT3.o.1 (by simp;omega))
  clear hto3 HN d0 d1 d2 d3 d4 d5 d6 d7
  simp only[List.toArray]at HP2
  go_wp2_with fail
  refine HP2.o.mono ?_
  rintro e w4 ⟨rfl,hto4⟩
  have HT4:Hid (cu w0.heap.size b (l++eR true T) nm w w4):=by
   have:=HT3.o.trans hto4
   show cu _ _ _ _ _ _
   simpa[eR]using this
  clear hto4 HP2
  go_wp2
  go_end0
  exact⟨rfl,HT4.o⟩
theorem Gq(w0:World)(b:Nat)(nm:Value)(N:de)(ks:List Tr)(vs:Nat->NV)(ka:Option Addr)(kl kc:Nat)(hk:bS w0 ka kl kc ks.length vs)(hkd:∀j (hj:j<ks.length),(vs j).kind=ks[j].kind)(hG:∀j (hj:j<ks.length),pH w0 b nm (vs j) (jX N ks[j]))(l:List UInt8)(w:World)(hw0:Below w0.heap.size w0 w)(h:Wr w0.heap.size b l nm w)(hlen:l.length+(fK (partAt (ks.map Tr.kind) (rD N ks)) ks.length).length<=140737488355328):
  Calls prog 39 #[.pointer (some ⟨b,0,none⟩),.slice ka kl kc] w fun e w'=>e=.returned (.tuple #[])/\cu w0.heap.size b (l++fK (partAt (ks.map Tr.kind) (rD N ks)) ks.length) nm w w':=by
 have hkl:=hk.len
 obtain⟨f,hf⟩:∃f,f=partAt (ks.map Tr.kind) (rD N ks):=⟨_,rfl⟩
 have HF:Hid (∀j (hj:j<ks.length),f j=eR ([(10:Int)].contains (vs j).kind) (jX N ks[j])):=fun j hj=>by
  rw[hf,lx N ks j hj,hkd j hj]
  simp
 rw[<- hf]at hlen |-
 have HLen:Hid (∀j,j<kl->l.length+(fK f (j+1)).length<=140737488355328):=fun j hj=>by
  have:=tH f (j:=j+1) (n:=ks.length) (by omega)
  omega
 have HK:=I hk
 have HKL:=I hkl
 have HW0:=I hw0
 have HG:=I hG
 have HW:=I h
 rw[<- hkl]
 clear hf hk hkd hG hw0 h hlen hkl
 go_enter func39,ntmps39
 go_wp2
 go_loopw [8] (fun c wr=>∃(j:Nat),j<=kl/\c=.int .i64 j/\cu w0.heap.size b (l++fK f j) nm w wr) (fun c _=>kl - (intOf c).toNat)
 case atStart=>exact⟨0,Nat.zero_le _,rfl,by simpa[fK]using cu.nil HW.o⟩
 case round=>
  obtain⟨j,hj,rfl,hto⟩:=hrel
  obtain⟨w2,hw2⟩:∃w2,w2=wr:=⟨_,rfl⟩
  subst hw2
  have HT:=I hto
  clear hto HW
  by_cases hlt:j<kl
  ·have hjk:j<ks.length:=by have:=HKL.o;omega
   have hb02:Below w0.heap.size w0 w2:=HW0.o.trans HT.o.2.1
   obtain⟨x,rfl,hmx,hcl⟩:∃x,ka=some x/\(ks.length<=kc/\kc<=9223372036854775807)/\∀j,j<ks.length->aL w0 (x.add (j*8)) (vs j):=by
    rcases HK.o with⟨_,_,_,h0⟩|⟨x,h1,_,h2,h3⟩
    ·omega
    ·exact⟨x,h1,h2,h3⟩
   obtain⟨d0,d1,d2,d3,d4,d5,d6,d7⟩:=(hcl j hjk).below hb02
   have hGj:=HG.o j hjk
   have hFj:=HF.o j hjk
   have hLj:=HLen.o j hlt
   have hup:fK f (j+1)=fK f j++f j:=rfl
   rw[hup,List.length_append]at hLj
   obtain⟨v,hv⟩:∃v,v=vs j:=⟨_,rfl⟩
   rw[<- hv]at d0 d1 d2 d3 d4 d5 d6 d7 hGj hFj
   obtain⟨w3,hw3⟩:∃w3,w3=w2.alloc (aG v):=⟨_,rfl⟩
   have hX3:w3.heap[w2.heap.size]? =some (aG v):=by rw[hw3];exact aj _ _
   have hb3:Below w2.heap.size w2 w3:=by rw[hw3];exact(J _ _).alloc (U _) _
   obtain⟨w4,hw4⟩:∃w4,w4=w3.alloc (.cells #[.int .i64 10] 3):=⟨_,rfl⟩
   have hX4:w4.heap[w3.heap.size]? =some (.cells #[.int .i64 10] 3):=by rw[hw4];exact aj _ _
   have hb4:Below w3.heap.size w3 w4:=by rw[hw4];exact(J _ _).alloc (U _) _
   have hto4:cu w0.heap.size b (l++fK f j) nm w w4:=(HT.o.then hb3).then hb4
   have HP:=I (nk w0 b nm v _ hGj [10] 1 w3.heap.size rfl (by omega) (l++fK f j) w4 (Jv hX4) (HW0.o.trans hto4.2.1) hto4.1 (by rw[<- hFj,List.length_append];omega))
   rw[<- hFj,List.append_assoc, <-hup]at HP
   have HT4:=I hto4
   have hs3:w3.heap.size=w2.heap.size+1:=by rw[hw3];simp
   obtain⟨q0,q1,q2,q3,q4,q5,q6,q7⟩:=ak hX3
   simp only[aG]at hw3
   simp only[cz]at HP
   have e5:(j:Int)<(kl:Int):=by omega
   have e6:(0:Int)<=(j:Int):=by omega
   have hkw:IntKind.i64.wrap ((j:Int)+1)=(j:Int)+1:=by rw[IntKind.wrap_i64];omega
   obtain⟨bx,hbx⟩:∃bx,bx=w2.heap.size:=⟨_,rfl⟩
   rw[<- hbx]at q0 q1 q2 q3 q4 q5 q6 q7
   clear hb02 hmx hcl hGj hFj hLj hup hv hX3 hb3 hX4 hb4 hto4 hs3 hjk
   go_upto_region 3 with fail
   rw[<- hw3, <-hbx]
   clear hw3 hbx d0 d1 d2 d3 d4 d5 d6 d7
   go_wp2_with fail
   rw[<- hw4]
   clear hw4
   refine HP.o.mono ?_
   rintro e w5 ⟨rfl,hto5⟩
   have HT5:=I (HT4.o.trans hto5)
   clear hto5 HP HT4 HT q0 q1 q2 q3 q4 q5 q6 q7
   go_wp2
   go_roundw
   case rel=>exact⟨j+1,by omega,by go_num,HT5.o⟩
   case measure=>simp[intOf];omega
  ·have e5:¬(j:Int)<(kl:Int):=by omega
   have hjm:j=kl:=by omega
   subst hjm
   go_wp2
   go_end0
   exact⟨rfl,HT.o⟩
theorem lP(w0:World)(b:Nat)(nm:Value)(N:de)(ks:List Tr)(vs:Nat->NV)(ka:Option Addr)(kl kc:Nat)(hk:bS w0 ka kl kc ks.length vs)(hG:∀j (hj:j<ks.length),pH w0 b nm (vs j) (jX N ks[j]))(l:List UInt8)(w:World)(hw0:Below w0.heap.size w0 w)(h:Wr w0.heap.size b l nm w)(hlen:l.length+(fK (mK (rD N ks)) ks.length).length<=140737488355328):
  Calls prog 40 #[.pointer (some ⟨b,0,none⟩),.slice ka kl kc] w fun e w'=>e=.returned (.tuple #[])/\cu w0.heap.size b (l++fK (mK (rD N ks)) ks.length) nm w w':=by
 have hkl:=hk.len
 obtain⟨f,hf⟩:∃f,f=mK (rD N ks):=⟨_,rfl⟩
 have HF:Hid (∀j (hj:j<ks.length),f j=(if j=0 then []else [124])++jX N ks[j]):=fun j hj=>by
  rw[hf,kO N ks j hj]
 rw[<- hf]at hlen |-
 have HLen:Hid (∀j,j<kl->l.length+(fK f (j+1)).length<=140737488355328):=fun j hj=>by
  have:=tH f (j:=j+1) (n:=ks.length) (by omega)
  omega
 have HK:=I hk
 have HKL:=I hkl
 have HW0:=I hw0
 have HG:=I hG
 have HW:=I h
 rw[<- hkl]
 clear hf hk hG hw0 h hlen hkl
 go_enter func40,ntmps40
 go_wp2
 go_loopw [8] (fun c wr=>∃(j:Nat),j<=kl/\c=.int .i64 j/\cu w0.heap.size b (l++fK f j) nm w wr) (fun c _=>kl - (intOf c).toNat)
 case atStart=>exact⟨0,Nat.zero_le _,rfl,by simpa[fK]using cu.nil HW.o⟩
 case round=>
  obtain⟨j,hj,rfl,hto⟩:=hrel
  obtain⟨w2,hw2⟩:∃w2,w2=wr:=⟨_,rfl⟩
  subst hw2
  have HT:=I hto
  clear hto HW
  by_cases hlt:j<kl
  ·have hjk:j<ks.length:=by have:=HKL.o;omega
   have hb02:Below w0.heap.size w0 w2:=HW0.o.trans HT.o.2.1
   obtain⟨x,rfl,hmx,hcl⟩:∃x,ka=some x/\(ks.length<=kc/\kc<=9223372036854775807)/\∀j,j<ks.length->aL w0 (x.add (j*8)) (vs j):=by
    rcases HK.o with⟨_,_,_,h0⟩|⟨x,h1,_,h2,h3⟩
    ·omega
    ·exact⟨x,h1,h2,h3⟩
   obtain⟨d0,d1,d2,d3,d4,d5,d6,d7⟩:=(hcl j hjk).below hb02
   have hGj:=HG.o j hjk
   have hFj:=HF.o j hjk
   have hLj:=HLen.o j hlt
   have hup:fK f (j+1)=fK f j++f j:=rfl
   rw[hup,List.length_append]at hLj
   obtain⟨v,hv⟩:∃v,v=vs j:=⟨_,rfl⟩
   obtain⟨T,hTT⟩:∃T,T=jX N ks[j]:=⟨_,rfl⟩
   rw[<- hv]at d0 d1 d2 d3 d4 d5 d6 d7 hGj
   rw[<- hTT]at hGj hFj
   obtain⟨w3,hw3⟩:∃w3,w3=w2.alloc (aG v):=⟨_,rfl⟩
   have hX3:w3.heap[w2.heap.size]? =some (aG v):=by rw[hw3];exact aj _ _
   have hb3:Below w2.heap.size w2 w3:=by rw[hw3];exact(J _ _).alloc (U _) _
   have hto3:cu w0.heap.size b (l++fK f j) nm w w3:=HT.o.then hb3
   have HT3:=I hto3
   have hne:w2.heap.size≠b:=by have:=HT.o.1.lt;omega
   have HXk:Hid (∀W,Kp b w3 W->aL W ⟨w2.heap.size,0,none⟩ v):=fun W hW=>ak (hW _ _ _ _ hne (by decide) hX3)
   have HGj:Hid (∀l W,Below w0.heap.size w W->Wr w0.heap.size b l nm W->l.length+T.length<=140737488355328->Calls prog 25 #[.pointer (some ⟨b,0,none⟩),cz v] W fun e w'=>e=.returned (.tuple #[])/\cu w0.heap.size b (l++T) nm W w'):=fun l W hW=>hGj l W (HW0.o.trans hW)
   obtain⟨q0,q1,q2,q3,q4,q5,q6,q7⟩:=ak hX3
   simp only[aG]at hw3
   simp only[cz]at HGj
   have e5:(j:Int)<(kl:Int):=by omega
   have e6:(0:Int)<=(j:Int):=by omega
   have hkw:IntKind.i64.wrap ((j:Int)+1)=(j:Int)+1:=by rw[IntKind.wrap_i64];omega
   obtain⟨bx,hbx⟩:∃bx,bx=w2.heap.size:=⟨_,rfl⟩
   rw[<- hbx]at q0 q1 q2 q3 q4 q5 q6 q7 HXk
   clear hb02 hmx hcl hGj hv hTT hX3 hb3 hto3 hjk hne
   have HFj:=I hFj
   have HUp:=I hup
   clear hFj hup
   go_upto_region 3 with fail
   rw[<- hw3, <-hbx]
   clear hw3 hbx d0 d1 d2 d3 d4 d5 d6 d7
   by_cases hj0:j=0
   ·subst hj0
    have HE:Hid (fK f (0+1)=fK f 0++T):=by show _=_;rw[HUp.o,HFj.o];simp
    have HL:Hid ((l++fK f 0).length+T.length<=140737488355328):=by
     have h1:=HFj.o
     rw[if_pos rfl,List.nil_append]at h1
     rw[h1]at hLj
     show _<=_
     rw[List.length_append];omega
    have HN:=I (HGj.o (l++fK f 0) w3 HT3.o.2.1 HT3.o.1 HL.o)
    clear HGj hLj HL
    go_wp2_with fail
    refine HN.o.mono ?_
    rintro e w5 ⟨rfl,hto5⟩
    rw[List.append_assoc, <-HE.o]at hto5
    have HT5:=I (HT3.o.trans hto5)
    clear hto5 HN HT3 HT q0 q1 q2 q3 q4 q5 q6 q7 HE
    go_wp2
    go_roundw
    case rel=>exact⟨0+1,by omega,by go_num,HT5.o⟩
    case measure=>simp[intOf];omega
   ·have e7:(0:Int)<(j:Int):=by omega
    have HE:Hid (l++fK f (j+1)=l++fK f j++[124]++T):=by show _=_;rw[HUp.o,HFj.o,if_neg hj0];simp
    have HL:Hid ((l++fK f j).length+(1+T.length)<=140737488355328):=by
     have h1:=HFj.o
     rw[if_neg hj0]at h1
     rw[h1,List.length_append]at hLj
     show _<=_
     rw[List.length_append];simp at hLj;omega
    have HP:=I (gn w0.heap.size b (l++fK f j) nm [124] w3 HT3.o.1 (by have:=HL.o;simp at this |-;omega))
    clear hLj hj0
    simp only[List.toArray]at HP
    clear q0 q1 q2 q3 q4 q5 q6 q7
    go_wp2_with fail
    refine HP.o.mono ?_
    rintro e w4 ⟨rfl,hto4⟩
    have HT4:=I (HT3.o.trans hto4)
    obtain⟨q0,q1,q2,q3,q4,q5,q6,q7⟩:=HXk.o w4 hto4.2.2
    have HN:=I (HGj.o (l++fK f j++[124]) w4 HT4.o.2.1 HT4.o.1 (by have:=HL.o;simp at this |-;omega))
    clear hto4 HP HGj HL
    go_wp2_with fail
    refine HN.o.mono ?_
    rintro e w5 ⟨rfl,hto5⟩
    rw[<- HE.o]at hto5
    have HT5:=I (HT4.o.trans hto5)
    clear hto5 HN HT3 HT4 HT q0 q1 q2 q3 q4 q5 q6 q7 HE
    go_wp2
    go_roundw
    case rel=>exact⟨j+1,by omega,by go_num,HT5.o⟩
    case measure=>simp[intOf];omega
  ·have e5:¬(j:Int)<(kl:Int):=by omega
   have hjm:j=kl:=by omega
   subst hjm
   go_wp2
   go_end0
   exact⟨rfl,HT.o⟩
theorem eH(w0:World)(b:Nat)(nm:Value)(n:NV)(l:List UInt8)(w:World)(hw0:Below w0.heap.size w0 w)(hT:iP w0)(h:Wr w0.heap.size b l nm w)(hnum:1<=n.num/\n.num<=20)(hlen:l.length+(CO n.fold n.num).length<=140737488355328):
  Calls prog 42 #[.pointer (some ⟨b,0,none⟩),cz n] w fun e w'=>e=.returned (.tuple #[])/\cu w0.heap.size b (l++CO n.fold n.num) nm w w':=by
 obtain⟨w1,hw1⟩:∃w1,w1=w.alloc (aG n):=⟨_,rfl⟩
 have hX1:w1.heap[w.heap.size]? =some (aG n):=by rw[hw1];exact aj _ _
 have hb1:Below w.heap.size w w1:=by rw[hw1];exact(J _ w).alloc (U _) _
 have hto1:cu w0.heap.size b l nm w w1:=cu.put h hb1
 have HT1:=I hto1
 have HI:=I (nO n.num (by omega) (by omega) w1 (hT.ar (hw0.trans hto1.2.1)))
 obtain⟨d0,d1,d2,d3,d4,d5,d6,d7⟩:=ak hX1
 simp only[aG]at hw1
 obtain⟨D,hD⟩:∃D,D=decDigits n.num.toNat:=⟨_,rfl⟩
 have hAg:CO n.fold n.num=if n.fold then [40,63,105,58,92,107,60]++(D++[62,41])else [92,107,60]++(D++[62]):=by rw[hD];rfl
 rw[<- hD]at HI
 obtain⟨fo,hfo⟩:∃fo,fo=n.fold:=⟨_,rfl⟩
 rw[<- hfo]at hAg d7
 obtain⟨R,hR⟩:∃R,R=CO n.fold n.num:=⟨_,rfl⟩
 rw[hfo, <-hR, <-hfo]at hAg
 rw[<- hR]at hlen |-
 have HLen:=I hlen
 have HRt:Hid (fo=true->R=[40,63,105,58,92,107,60]++(D++[62,41])):=fun e=>by rw[hAg,if_pos e]
 have HRf:Hid (fo=false->R=[92,107,60]++(D++[62])):=fun e=>by rw[hAg,if_neg (by rw[e];decide)]
 obtain⟨bx,hbx⟩:∃bx,bx=w.heap.size:=⟨_,rfl⟩
 rw[<- hbx]at d0 d1 d2 d3 d4 d5 d6 d7
 obtain⟨SD,hSD⟩:∃SD:ByteArray,SD=⟨D.toArray⟩:=⟨_,rfl⟩
 rw[<- hSD]at HI
 have HSD:=I hSD
 clear hw0 hT h hlen hX1 hb1 hto1 hD hAg hSD hnum hR hfo
 go_enter func42,ntmps42
 go_upto_region 1 with fail
 rw[<- hw1, <-hbx]
 clear hw1 hbx
 cases fo with
 |true=>
  have HR:=I (HRt.o rfl)
  clear HRt HRf
  go_wp2_with fail
  refine HI.o.mono ?_
  rintro e w2 ⟨rfl,hb2⟩
  have HT2:=I (HT1.o.then hb2)
  have HP:=I (Ik w0.heap.size b l nm [40,63,105,58,92,107,60] D [62,41] w2 HT2.o.1 (by rw[<- HR.o];exact HLen.o))
  rw[<- HSD.o, <-HR.o]at HP
  clear hb2 HI HSD d0 d1 d2 d3 d4 d5 d6 d7
  go_wp2_with fail
  refine HP.o.mono ?_
  rintro e w3 ⟨rfl,hto3⟩
  have HT3:=I (HT2.o.trans hto3)
  clear hto3 HP HLen
  go_wp2
  go_end0
  exact⟨rfl,HT3.o⟩
 |false=>
  have HR:=I (HRf.o rfl)
  clear HRt HRf
  go_wp2_with fail
  refine HI.o.mono ?_
  rintro e w2 ⟨rfl,hb2⟩
  have HT2:=I (HT1.o.then hb2)
  have HP:=I (Ik w0.heap.size b l nm [92,107,60] D [62] w2 HT2.o.1 (by rw[<- HR.o];exact HLen.o))
  rw[<- HSD.o, <-HR.o]at HP
  clear hb2 HI HSD d0 d1 d2 d3 d4 d5 d6 d7
  go_wp2_with fail
  refine HP.o.mono ?_
  rintro e w3 ⟨rfl,hto3⟩
  have HT3:=I (HT2.o.trans hto3)
  clear hto3 HP HLen
  go_wp2
  go_end0
  exact⟨rfl,HT3.o⟩
theorem Eb(k:Int):[(9:Int),10,12].contains k=fu k:=by
 unfold fu
 rw[Bool.eq_iff_iff]
 simp[or_assoc]
theorem fa(w0:World)(b:Nat)(nm:Value)(n v:NV)(x:Addr)(T:List UInt8)(hka:n.ka=some x)(hkl:n.kl=1)(hc0:aL w0 x v)(hG:pH w0 b nm v T)(l:List UInt8)(w:World)(hw0:Below w0.heap.size w0 w)(hT:iP w0)(h:Wr w0.heap.size b l nm w)
  (hle:0<=n.least/\n.least<=100) (hmo:n.an= -1\/(0<=n.an/\n.an<=100)) (hlen:l.length+(eR (fu v.kind) T++cD n.least n.an n.bB).length<=140737488355328):
  Calls prog 41 #[.pointer (some ⟨b,0,none⟩),cz n] w fun e w'=>e=.returned (.tuple #[])/\cu w0.heap.size b (l++(eR (fu v.kind) T++cD n.least n.an n.bB)) nm w w':=by
 obtain⟨w1,hw1⟩:∃w1,w1=w.alloc (aG n):=⟨_,rfl⟩
 have hX1:w1.heap[w.heap.size]? =some (aG n):=by rw[hw1];exact aj _ _
 have hb1:Below w.heap.size w w1:=by rw[hw1];exact(J _ w).alloc (U _) _
 have hto1:cu w0.heap.size b l nm w w1:=cu.put h hb1
 have HT1:=I hto1
 obtain⟨w2,hw2⟩:∃w2,w2=w1.alloc (.cells #[.int .i64 9,.int .i64 10,.int .i64 12] 3):=⟨_,rfl⟩
 have hX2:w2.heap[w1.heap.size]? =some (.cells #[.int .i64 9,.int .i64 10,.int .i64 12] 3):=by rw[hw2];exact aj _ _
 have hb2:Below w1.heap.size w1 w2:=by rw[hw2];exact(J _ _).alloc (U _) _
 have hto2:cu w0.heap.size b l nm w w2:=hto1.then hb2
 have HT2:=I hto2
 have hne:w.heap.size≠b:=by have:=h.lt;omega
 have HXk:Hid (∀W,Kp b w1 W->aL W ⟨w.heap.size,0,none⟩ n):=fun W hW=>ak (hW _ _ _ _ hne (by decide) hX1)
 have HK2:Hid (Kp b w1 w2):=Kp.below hb2
 obtain⟨A,hA⟩:∃A,A=eR (fu v.kind) T:=⟨_,rfl⟩
 have hlA:l.length+A.length<=140737488355328:=by rw[hA];rw[List.length_append]at hlen;omega
 have HPt:=I (nk w0 b nm v T hG [9,10,12] 3 w1.heap.size rfl (by omega) l w2 (Jq hX2) (hw0.trans hto2.2.1) hto2.1 (by rw[Eb, <-hA];exact hlA))
 rw[Eb, <-hA]at HPt
 rw[<- hA]at hlen |-
 have hTab:∀W,Below w0.heap.size w W->iP W:=fun W hW=>hT.ar (hw0.trans hW)
 obtain⟨D1,hD1⟩:∃D1,D1=decDigits n.least.toNat:=⟨_,rfl⟩
 obtain⟨SD1,hSD1⟩:∃SD1:ByteArray,SD1=⟨D1.toArray⟩:=⟨_,rfl⟩
 have HSD1:=I hSD1
 have HI1:Hid (∀W,Below w0.heap.size w W->Calls prog 62 #[.int .i64 n.least] W fun e w'=>e=.returned (.string SD1)/\Below W.heap.size W w'):=fun W hW=>by rw[hSD1,hD1];exact nO n.least (by omega) (by omega) W (hTab W hW)
 obtain⟨D2,hD2⟩:∃D2,D2=decDigits n.an.toNat:=⟨_,rfl⟩
 obtain⟨SD2,hSD2⟩:∃SD2:ByteArray,SD2=⟨D2.toArray⟩:=⟨_,rfl⟩
 have HSD2:=I hSD2
 have HI2:Hid (0<=n.an->∀W,Below w0.heap.size w W->Calls prog 62 #[.int .i64 n.an] W fun e w'=>e=.returned (.string SD2)/\Below W.heap.size W w'):=fun h0 W hW=>by rw[hSD2,hD2];exact nO n.an h0 (by omega) W (hTab W hW)
 have HWy:Hid (∀W,Calls prog 63 #[.int .i64 n.bB] W fun e w'=>e=.returned (.string (iJ n.bB))/\w'=W):=FC n.bB
 obtain⟨V,hV⟩:∃V,V=(iJ n.bB).data.toList:=⟨_,rfl⟩
 obtain⟨SV,hSV⟩:∃SV,SV=iJ n.bB:=⟨_,rfl⟩
 have HSV:Hid (SV=⟨V.toArray⟩):=by show _=_;rw[hSV,hV]
 rw[<- hSV]at HWy
 have hR:cD n.least n.an n.bB=[123]++(D1++([44]++((if 0<=n.an then D2 else [])++([125]++V)))):=by rw[hD1,hD2,hV];rfl
 rw[hR]at hlen |-
 have HLen:=I hlen
 obtain⟨R,hRR⟩:∃R,R=l++(A++([123]++(D1++([44]++((if 0<=n.an then D2 else [])++([125]++V)))))):=⟨_,rfl⟩
 have HRR:=I hRR
 rw[<- hRR]
 obtain⟨least,hleast⟩:∃q,q=n.least:=⟨_,rfl⟩
 obtain⟨an,hmost⟩:∃q,q=n.an:=⟨_,rfl⟩
 obtain⟨bB,hway⟩:∃q,q=n.bB:=⟨_,rfl⟩
 have HXq:Hid (∀W,Kp b w1 W->W.cell? ⟨w.heap.size,4,none⟩=some (.int .i64 least)/\W.cell? ⟨w.heap.size,5,none⟩=some (.int .i64 an)/\W.cell? ⟨w.heap.size,6,none⟩=some (.int .i64 bB)):=fun W hW=>by
  have:=HXk.o W hW
  rw[hleast,hmost,hway]
  exact⟨this.c4,this.c5,this.c6⟩
 obtain⟨m0,m1,m2,m3,m4,m5,m6,m7⟩:=hc0.below (hw0.trans hto1.2.1)
 obtain⟨d0,d1,d2,d3,d4,d5,d6,d7⟩:=ak hX1
 rw[hka,hkl]at d2
 simp only[aG]at hw1
 obtain⟨bx,hbx⟩:∃bx,bx=w.heap.size:=⟨_,rfl⟩
 rw[<- hbx]at d0 d1 d2 d3 d4 d5 d6 d7 HXq
 rw[<- hleast]at HI1 d4
 rw[<- hmost]at HI2 HLen d5 HRR
 rw[<- hway]at HWy d6
 simp only[cz]at HPt
 clear hka hkl hc0 hG hw0 hT h hle hlen hX1 hb1 hto1 hX2 hb2 hto2 hne hA hlA hTab hD1 hD2 hSD1 hSD2 hV hSV hR hRR HXk hmo
 go_enter func41,ntmps41
 go_upto_region 1 with fail
 rw[<- hw1, <-hbx]
 clear hw1 hbx hleast hmost hway
 go_wp2_with fail
 rw[<- hw2]
 clear hw2
 refine HPt.o.mono ?_
 rintro e w3 ⟨rfl,hto3⟩
 have HT3:=I (HT2.o.trans hto3)
 have HK3:Hid (Kp b w1 w3):=HK2.o.trans hto3.2.2
 clear hto3 HPt HT2 HK2 d0 d1 d2 d3 d4 d5 d6 d7 m0 m1 m2 m3 m4 m5 m6 m7
 obtain⟨c4,c5,c6⟩:=HXq.o w3 HK3.o
 go_wp2_with fail
 refine(HI1.o w3 HT3.o.2.1).mono ?_
 rintro e w4 ⟨rfl,hb4⟩
 have HT4:=I (HT3.o.then hb4)
 have HK4:Hid (Kp b w1 w4):=HK3.o.trans (Kp.below hb4)
 have HP3:=I (Ik w0.heap.size b (l++A) nm [123] D1 [44] w4 HT4.o.1 (by have:=HLen.o;simp at this |-;omega))
 rw[<- HSD1.o]at HP3
 clear hb4 HI1 HT3 HK3 c4 c5 c6 HSD1
 go_wp2_with fail
 refine HP3.o.mono ?_
 rintro e w5 ⟨rfl,hto5⟩
 have HT5:=I (HT4.o.trans hto5)
 have HK5:Hid (Kp b w1 w5):=HK4.o.trans hto5.2.2
 clear hto5 HP3 HT4 HK4
 obtain⟨c4,c5,c6⟩:=HXq.o w5 HK5.o
 by_cases hm0:0<=an
 ·rw [if_pos hm0]at HLen HRR
  have HIm:=I (HI2.o hm0)
  clear HI2
  go_wp2_with fail
  refine(HIm.o w5 HT5.o.2.1).mono ?_
  rintro e w6 ⟨rfl,hb6⟩
  have HT6:=I (HT5.o.then hb6)
  have HK6:Hid (Kp b w1 w6):=HK5.o.trans (Kp.below hb6)
  have HP1:=I (gn w0.heap.size b _ nm D2 w6 HT6.o.1 (by have:=HLen.o;simp at this |-;omega))
  rw[<- HSD2.o]at HP1
  clear hb6 HIm HT5 HK5 c4 c5 c6 HSD2
  go_wp2_with fail
  refine HP1.o.mono ?_
  rintro e w7 ⟨rfl,hto7⟩
  have HT7:=I (HT6.o.trans hto7)
  have HK7:Hid (Kp b w1 w7):=HK6.o.trans hto7.2.2
  clear hto7 HP1 HT6 HK6
  obtain⟨c4,c5,c6⟩:=HXq.o w7 HK7.o
  have HP2:=I (JM w0.heap.size b _ nm [125] V w7 HT7.o.1 (by have:=HLen.o;simp at this |-;omega))
  rw[<- HSV.o]at HP2
  clear HSV
  go_wp2_with fail
  refine(HWy.o w7).mono ?_
  rintro e w' ⟨rfl,hh⟩
  have hh2:=hh.symm
  subst hh2
  go_wp2_with fail
  refine HP2.o.mono ?_
  rintro e w8 ⟨rfl,hto8⟩
  have HT8:Hid (cu w0.heap.size b R nm w w8):=by
   have:=HT7.o.trans hto8
   show cu _ _ _ _ _ _
   rw[HRR.o]
   simpa using this
  clear hto8 HP2 HT7 HLen
  go_wp2
  go_end0
  exact⟨rfl,HT8.o⟩
 ·rw [if_neg hm0]at HLen HRR
  have hm1:an<0:=by omega
  have HP2:=I (JM w0.heap.size b _ nm [125] V w5 HT5.o.1 (by have:=HLen.o;simp at this |-;omega))
  rw[<- HSV.o]at HP2
  clear HSV HI2
  go_wp2_with fail
  refine(HWy.o w5).mono ?_
  rintro e w' ⟨rfl,hh⟩
  have hh2:=hh.symm
  subst hh2
  go_wp2_with fail
  refine HP2.o.mono ?_
  rintro e w8 ⟨rfl,hto8⟩
  have HT8:Hid (cu w0.heap.size b R nm w w8):=by
   have:=HT5.o.trans hto8
   show cu _ _ _ _ _ _
   rw[HRR.o]
   simpa using this
  clear hto8 HP2 HT5 HLen
  go_wp2
  go_end0
  exact⟨rfl,HT8.o⟩
theorem DX(N:de)(num:Int):aR N 13 num=[40,63,62]:=rfl
theorem El(N:de)(num:Int):aR N 14 num=[40,63,61]:=rfl
theorem Dj(N:de)(num:Int):aR N 15 num=[40,63,33]:=rfl
theorem Eo(N:de)(num:Int):aR N 16 num=[40,63,60,61]:=rfl
theorem DI(N:de)(num:Int):aR N 17 num=[40,63,60,33]:=rfl
theorem Er(N:de)(num:Int):aR N 11 num=gA N num:=rfl
theorem Wr.names{B b:Nat}{l:List UInt8}{nm:Value}{w:World}(h:Wr B b l nm w):w.cell? ⟨b,2,none⟩=some nm:=by
 rcases h with⟨h1,v,h2,_⟩|⟨h1,v,h2,_⟩<;>exact(lH h2).2.2.1
theorem tQ(B b:Nat)(l:List UInt8)(nm:Value)(N:de)(n:NV)(w:World)(h:Wr B b l nm w)(hk:13<=n.kind/\n.kind<=17):
  Calls prog 44 #[.pointer (some ⟨b,0,none⟩),cz n] w fun e w'=>e=.returned (.string ⟨(aR N n.kind n.num).toArray⟩)/\Below w.heap.size w w':=by
 obtain⟨w1,hw1⟩:∃w1,w1=w.alloc (aG n):=⟨_,rfl⟩
 have hX1:w1.heap[w.heap.size]? =some (aG n):=by rw[hw1];exact aj _ _
 have HB1:Hid (Below w.heap.size w w1):=by show Below _ _ _;rw[hw1];exact(J _ w).alloc (U _) _
 obtain⟨d0,d1,d2,d3,d4,d5,d6,d7⟩:=ak hX1
 simp only[aG]at hw1
 rcases (by omega:n.kind=13\/n.kind=14\/n.kind=15\/n.kind=16\/n.kind=17)with e|e|e|e|e<;>
  (have HE:=I e
   rw[e]at d0
   clear hX1 e hk h
   go_enter func44,ntmps44
   go_upto_region 1 with fail
   rw[<- hw1]
   clear hw1
   go_wp2
   go_ret
   refine⟨?_,HB1.o⟩
   rw[HE.o]
   first|rw[DX]|rw[El]|rw[Dj]|rw[Eo]|rw[DI]
   rfl)
theorem rG(w0:World)(b:Nat)(l:List UInt8)(na:Option Addr)(nl nc:Nat)(N:de)(n:NV)(w:World)(h:Wr w0.heap.size b l (.slice na nl nc) w)(hw0:Below w0.heap.size w0 w)(hN:bW w0 (.slice na nl nc) N)(htw:nT N N.length)(hnz:∀i,i<N.length->(lR N i).size<=1048576)(hk:n.kind=11):
  Calls prog 44 #[.pointer (some ⟨b,0,none⟩),cz n] w fun e w'=>e=.returned (.string ⟨(aR N n.kind n.num).toArray⟩)/\Below w.heap.size w w':=by
 rw[hk,Er]
 obtain⟨R,hR⟩:∃R:ByteArray,R=⟨(gA N n.num).toArray⟩:=⟨_,rfl⟩
 have HR:Hid (∀T,jS N n.num T->R=⟨T.toArray⟩):=fun T hT=>by rw[hR,jS.one htw (jS.gA N n.num) hT]
 rw[<- hR]
 obtain⟨w1,hw1⟩:∃w1,w1=w.alloc (aG n):=⟨_,rfl⟩
 have hX1:w1.heap[w.heap.size]? =some (aG n):=by rw[hw1];exact aj _ _
 have hb1:Below w.heap.size w w1:=by rw[hw1];exact(J _ w).alloc (U _) _
 have HB1:=I hb1
 have HX1:=I hX1
 have hnm:=(h.ar hb1).names
 have hnl:nl=N.length:=by
  rcases hN with⟨e,rfl⟩|⟨x,c,e,_⟩
  ·injection e
  ·injection e
 have HNL:=I hnl
 have HNZ:=I hnz
 have HNM:Hid (∀W,Below w.heap.size w W->∀j,j<nl->∃x,na=some x/\nl<=nc/\nc<=9223372036854775807/\W.cell? (x.add (j*2))=some (.string (lR N j))/\W.cell? ⟨(x.add (j*2)).block,(x.add (j*2)).off+1,none⟩=some (.int .i64 (mx N j))):=fun W hW j hj=>by
  have hbW:Below w0.heap.size w0 W:=hw0.trans (hW.mono hw0.size)
  rcases hN with⟨e,rfl⟩|⟨x,c,e,hc,hcl⟩
  ·rw[hnl]at hj;simp at hj
  ·have hj':j<N.length:=by omega
   injection e with e1 e2 e3
   refine⟨x,e1,by omega,by omega,?_⟩
   rw[mf hj',nK hj']
   exact⟨aE hbW (bb (hcl j hj').1) (hcl j hj').1,aE hbW (bb (hcl j hj').2) (hcl j hj').2⟩
 obtain⟨d0,d1,d2,d3,d4,d5,d6,d7⟩:=ak hX1
 simp only[aG]at hw1
 have d0':w1.cell? ⟨w.heap.size,0,none⟩=some (.int .i64 11):=by rw[<- hk];exact d0
 have HK:=I hk
 have HNN:Hid (nl=0->na=none/\nc=0\/True):=fun _=>.inr trivial
 obtain⟨num,hnum⟩:∃num,num=n.num:=⟨_,rfl⟩
 rw[<- hnum]at HR
 have HNum:=I hnum
 clear h hw0 hN htw hnz hb1 hX1 hk hnl hR d0 hnum HNN
 go_enter func44,ntmps44
 go_upto_region 1 with fail
 rw[<- hw1]
 clear hw1
 go_wp2
 go_loopw [24] (fun c wr=>∃(j:Nat),j<=nl/\c=.int .i64 j/\(∀i,i<j->mx N i≠num)/\wr.heap[w.heap.size]? =some (aG n)/\Below w.heap.size w wr) (fun c _=>nl - (intOf c).toNat)
 case atStart=>exact⟨0,Nat.zero_le _,rfl,fun i hi=>absurd hi (by omega),HX1.o,HB1.o⟩
 case round=>
  obtain⟨j,hj,rfl,hne,hX,hb⟩:=hrel
  obtain⟨w2,hw2⟩:∃w2,w2=wr:=⟨_,rfl⟩
  subst hw2
  have HN:=I hne
  have HX:=I hX
  have HB:=I hb
  clear hne hX hb d1 d2 d3 d4 d5 d6 d7 d0' hnm HX1 HB1
  by_cases hlt:j<nl
  ·obtain ⟨x,hna,hc1,hc2,m0,m1⟩:=HNM.o w2 HB.o j hlt
   subst hna
   have hsz:=HNZ.o j (by have:=HNL.o;omega)
   have HT:Hid (mx N j=num->R=⟨#[40,63,60]⟩++lR N j++⟨#[62]⟩):=fun e=>by
    rw[HR.o _ (.inl ⟨j,by have:=HNL.o;omega,e,rfl⟩)]
    apply ByteArray.ext
    rw[ByteArray.data_append,ByteArray.data_append]
    apply Array.ext'
    simp
   have HF:Hid (mx N j≠num->∀i,i<j+1->mx N i≠num):=fun e i hi=>by
    by_cases hij:i=j
    ·rw[hij];exact e
    ·exact HN.o i (by omega)
   obtain⟨a,ha⟩:∃a,a=lR N j:=⟨_,rfl⟩
   obtain⟨nu,hnu⟩:∃nu,nu=mx N j:=⟨_,rfl⟩
   rw[<- ha]at m0 hsz HT
   rw[<- hnu]at m1 HT HF
   obtain⟨w3,hw3⟩:∃w3,w3=w2.alloc (yS a nu):=⟨_,rfl⟩
   have hX3:w3.heap[w2.heap.size]? =some (yS a nu):=by rw[hw3];exact aj _ _
   have hXn:w3.heap[w.heap.size]? =some (aG n):=by rw[hw3];exact ba HX.o
   have HXn:=I hXn
   have HB3:Hid (Below w.heap.size w w3):=by show Below _ _ _;rw[hw3];exact HB.o.alloc HB.o.size _
   obtain⟨bx,hbx⟩:∃bx,bx=w2.heap.size:=⟨_,rfl⟩
   rw[<- hbx]at hX3
   obtain⟨f0,f1⟩:=mP hX3
   have q3:=(ak hXn).c3
   rw[<- HNum.o]at q3
   have e5:(j:Int)<(nl:Int):=by omega
   have e6:(0:Int)<=(j:Int):=by omega
   have hkw:IntKind.i64.wrap ((j:Int)+1)=(j:Int)+1:=by rw[IntKind.wrap_i64];omega
   have z1:¬(9223372036854775807<((⟨#[40,63,60]⟩:ByteArray)).size+a.size):=by have:((⟨#[40,63,60]⟩:ByteArray)).size=3:=rfl;omega
   have z2:¬(9223372036854775807<((⟨#[40,63,60]⟩:ByteArray)++a).size+((⟨#[62]⟩:ByteArray)).size):=by rw[ByteArray.size_append];have:((⟨#[40,63,60]⟩:ByteArray)).size=3:=rfl;have h2:((⟨#[62]⟩:ByteArray)).size=1:=rfl;omega
   simp only[yS]at hw3
   clear hX3 hXn ha hnu HX HB hsz hc1 hc2
   go_upto_region 15 with fail
   rw[<- hw3, <-hbx]
   clear hw3 hbx m0 m1
   by_cases hq:nu=num
   ·have HF':=I (HT.o hq)
    have b1:(nu==num)=true:=by simp[hq]
    clear HT HF
    subst hq
    go_wp2
    go_ret
    exact⟨by rw[HF'.o];rfl,HB3.o⟩
   ·have HF':=I (HF.o hq)
    have b1:(nu==num)=false:=by simpa using hq
    clear HT HF
    go_wp2
    go_roundw
    case rel=>exact⟨j+1,by omega,by go_num,HF'.o,HXn.o,HB3.o⟩
    case measure=>simp[intOf];omega
  ·have e5:¬(j:Int)<(nl:Int):=by omega
   have HF:Hid (R=⟨#[40]⟩):=HR.o [40] (.inr ⟨fun i hi=>HN.o i (by have:=HNL.o;omega),rfl⟩)
   clear HN
   go_wp2
   go_ret
   exact⟨by rw[HF.o];rfl,HB.o⟩
theorem wK(w0:World)(b:Nat)(l:List UInt8)(na:Option Addr)(nl nc:Nat)(N:de)(n:NV)(w:World)(h:Wr w0.heap.size b l (.slice na nl nc) w)(hw0:Below w0.heap.size w0 w)(hN:bW w0 (.slice na nl nc) N)(htw:nT N N.length)(hnz:∀i,i<N.length->(lR N i).size<=1048576)(hk:n.kind=11\/(13<=n.kind/\n.kind<=17)):
  Calls prog 44 #[.pointer (some ⟨b,0,none⟩),cz n] w fun e w'=>e=.returned (.string ⟨(aR N n.kind n.num).toArray⟩)/\Below w.heap.size w w':=by
 rcases hk with hk|hk
 ·exact rG w0 b l na nl nc N n w h hw0 hN htw hnz hk
 ·exact tQ w0.heap.size b l _ N n w h hk
theorem CF(w0:World)(b:Nat)(nm:Value)(n:NV)(T:List UInt8)(l:List UInt8)(w:World)(h:Wr w0.heap.size b l nm w)(HC:∀W,Below w.heap.size w W->Calls prog 38 #[.pointer (some ⟨b,0,none⟩),.slice n.sa n.sl n.sc] W fun e w'=>e=.returned (.tuple #[])/\cu w0.heap.size b (l++T) nm W w')(hk:n.kind=2):Calls prog 25 #[.pointer (some ⟨b,0,none⟩),cz n] w fun e w'=>e=.returned (.tuple #[])/\cu w0.heap.size b (l++T) nm w w':=by
 obtain⟨w1,hw1⟩:∃w1,w1=w.alloc (aG n):=⟨_,rfl⟩
 have hX1:w1.heap[w.heap.size]? =some (aG n):=by rw[hw1];exact aj _ _
 have hb1:Below w.heap.size w w1:=by rw[hw1];exact(J _ w).alloc (U _) _
 have hto1:cu w0.heap.size b l nm w w1:=cu.put h hb1
 have HT1:=I hto1
 have hne:w.heap.size≠b:=by have:=h.lt;omega
 have HXk:Hid (∀W,Kp b w1 W->aL W ⟨w.heap.size,0,none⟩ n):=fun W hW=>ak (hW _ _ _ _ hne (by decide) hX1)
 obtain⟨d0,d1,d2,d3,d4,d5,d6,d7⟩:=ak hX1
 rw[hk]at d0
 obtain⟨bx,hbx⟩:∃bx,bx=w.heap.size:=⟨_,rfl⟩
 rw[<- hbx]at d0 d1 d2 d3 d4 d5 d6 d7 HXk
 have HCC:=I (HC w1 hb1)
 clear h HC hk
 simp only[aG]at hw1
 clear hX1 hb1 hto1 hne
 go_enter func25,ntmps25
 go_upto_region 1 with fail
 rw[<- hw1, <-hbx]
 clear hw1 hbx
 go_wp2_with fail
 refine HCC.o.mono ?_
 rintro e w2 ⟨rfl,hto2⟩
 have HT2:=I (HT1.o.trans hto2)
 clear hto2 HCC HT1 HXk d0 d1 d2 d3 d4 d5 d6 d7
 go_wp2
 go_end0
 exact⟨rfl,HT2.o⟩
theorem BO(w0:World)(b:Nat)(nm:Value)(n:NV)(T:List UInt8)(l:List UInt8)(w:World)(h:Wr w0.heap.size b l nm w)(HC:∀W,Below w.heap.size w W->Calls prog 39 #[.pointer (some ⟨b,0,none⟩),.slice n.ka n.kl n.kc] W fun e w'=>e=.returned (.tuple #[])/\cu w0.heap.size b (l++T) nm W w')(hk:n.kind=9):Calls prog 25 #[.pointer (some ⟨b,0,none⟩),cz n] w fun e w'=>e=.returned (.tuple #[])/\cu w0.heap.size b (l++T) nm w w':=by
 obtain⟨w1,hw1⟩:∃w1,w1=w.alloc (aG n):=⟨_,rfl⟩
 have hX1:w1.heap[w.heap.size]? =some (aG n):=by rw[hw1];exact aj _ _
 have hb1:Below w.heap.size w w1:=by rw[hw1];exact(J _ w).alloc (U _) _
 have hto1:cu w0.heap.size b l nm w w1:=cu.put h hb1
 have HT1:=I hto1
 have hne:w.heap.size≠b:=by have:=h.lt;omega
 have HXk:Hid (∀W,Kp b w1 W->aL W ⟨w.heap.size,0,none⟩ n):=fun W hW=>ak (hW _ _ _ _ hne (by decide) hX1)
 obtain⟨d0,d1,d2,d3,d4,d5,d6,d7⟩:=ak hX1
 rw[hk]at d0
 obtain⟨bx,hbx⟩:∃bx,bx=w.heap.size:=⟨_,rfl⟩
 rw[<- hbx]at d0 d1 d2 d3 d4 d5 d6 d7 HXk
 have HCC:=I (HC w1 hb1)
 clear h HC hk
 simp only[aG]at hw1
 clear hX1 hb1 hto1 hne
 go_enter func25,ntmps25
 go_upto_region 1 with fail
 rw[<- hw1, <-hbx]
 clear hw1 hbx
 go_wp2_with fail
 refine HCC.o.mono ?_
 rintro e w2 ⟨rfl,hto2⟩
 have HT2:=I (HT1.o.trans hto2)
 clear hto2 HCC HT1 HXk d0 d1 d2 d3 d4 d5 d6 d7
 go_wp2
 go_end0
 exact⟨rfl,HT2.o⟩
theorem tu(w0:World)(b:Nat)(nm:Value)(n:NV)(T:List UInt8)(l:List UInt8)(w:World)(h:Wr w0.heap.size b l nm w)(HC:∀W,Below w.heap.size w W->Calls prog 40 #[.pointer (some ⟨b,0,none⟩),.slice n.ka n.kl n.kc] W fun e w'=>e=.returned (.tuple #[])/\cu w0.heap.size b (l++T) nm W w')(hk:n.kind=10):Calls prog 25 #[.pointer (some ⟨b,0,none⟩),cz n] w fun e w'=>e=.returned (.tuple #[])/\cu w0.heap.size b (l++T) nm w w':=by
 obtain⟨w1,hw1⟩:∃w1,w1=w.alloc (aG n):=⟨_,rfl⟩
 have hX1:w1.heap[w.heap.size]? =some (aG n):=by rw[hw1];exact aj _ _
 have hb1:Below w.heap.size w w1:=by rw[hw1];exact(J _ w).alloc (U _) _
 have hto1:cu w0.heap.size b l nm w w1:=cu.put h hb1
 have HT1:=I hto1
 have hne:w.heap.size≠b:=by have:=h.lt;omega
 have HXk:Hid (∀W,Kp b w1 W->aL W ⟨w.heap.size,0,none⟩ n):=fun W hW=>ak (hW _ _ _ _ hne (by decide) hX1)
 obtain⟨d0,d1,d2,d3,d4,d5,d6,d7⟩:=ak hX1
 rw[hk]at d0
 obtain⟨bx,hbx⟩:∃bx,bx=w.heap.size:=⟨_,rfl⟩
 rw[<- hbx]at d0 d1 d2 d3 d4 d5 d6 d7 HXk
 have HCC:=I (HC w1 hb1)
 clear h HC hk
 simp only[aG]at hw1
 clear hX1 hb1 hto1 hne
 go_enter func25,ntmps25
 go_upto_region 1 with fail
 rw[<- hw1, <-hbx]
 clear hw1 hbx
 go_wp2_with fail
 refine HCC.o.mono ?_
 rintro e w2 ⟨rfl,hto2⟩
 have HT2:=I (HT1.o.trans hto2)
 clear hto2 HCC HT1 HXk d0 d1 d2 d3 d4 d5 d6 d7
 go_wp2
 go_end0
 exact⟨rfl,HT2.o⟩
theorem uj(w0:World)(b:Nat)(nm:Value)(n:NV)(T:List UInt8)(l:List UInt8)(w:World)(h:Wr w0.heap.size b l nm w)(HC:∀W,Below w.heap.size w W->Calls prog 41 #[.pointer (some ⟨b,0,none⟩),cz n] W fun e w'=>e=.returned (.tuple #[])/\cu w0.heap.size b (l++T) nm W w')(hk:n.kind=12):Calls prog 25 #[.pointer (some ⟨b,0,none⟩),cz n] w fun e w'=>e=.returned (.tuple #[])/\cu w0.heap.size b (l++T) nm w w':=by
 obtain⟨w1,hw1⟩:∃w1,w1=w.alloc (aG n):=⟨_,rfl⟩
 have hX1:w1.heap[w.heap.size]? =some (aG n):=by rw[hw1];exact aj _ _
 have hb1:Below w.heap.size w w1:=by rw[hw1];exact(J _ w).alloc (U _) _
 have hto1:cu w0.heap.size b l nm w w1:=cu.put h hb1
 have HT1:=I hto1
 have hne:w.heap.size≠b:=by have:=h.lt;omega
 have HXk:Hid (∀W,Kp b w1 W->aL W ⟨w.heap.size,0,none⟩ n):=fun W hW=>ak (hW _ _ _ _ hne (by decide) hX1)
 obtain⟨d0,d1,d2,d3,d4,d5,d6,d7⟩:=ak hX1
 rw[hk]at d0
 obtain⟨bx,hbx⟩:∃bx,bx=w.heap.size:=⟨_,rfl⟩
 rw[<- hbx]at d0 d1 d2 d3 d4 d5 d6 d7 HXk
 have HCC:=I (HC w1 hb1)
 simp only[cz]at HCC
 rw[hk]at HCC
 clear h HC hk
 simp only[aG]at hw1
 clear hX1 hb1 hto1 hne
 go_enter func25,ntmps25
 go_upto_region 1 with fail
 rw[<- hw1, <-hbx]
 clear hw1 hbx
 go_wp2_with fail
 refine HCC.o.mono ?_
 rintro e w2 ⟨rfl,hto2⟩
 have HT2:=I (HT1.o.trans hto2)
 clear hto2 HCC HT1 HXk d0 d1 d2 d3 d4 d5 d6 d7
 go_wp2
 go_end0
 exact⟨rfl,HT2.o⟩
theorem xh(w0:World)(b:Nat)(nm:Value)(n:NV)(T:List UInt8)(l:List UInt8)(w:World)(h:Wr w0.heap.size b l nm w)(HC:∀W,Below w.heap.size w W->Calls prog 42 #[.pointer (some ⟨b,0,none⟩),cz n] W fun e w'=>e=.returned (.tuple #[])/\cu w0.heap.size b (l++T) nm W w')(hk:n.kind=18):Calls prog 25 #[.pointer (some ⟨b,0,none⟩),cz n] w fun e w'=>e=.returned (.tuple #[])/\cu w0.heap.size b (l++T) nm w w':=by
 obtain⟨w1,hw1⟩:∃w1,w1=w.alloc (aG n):=⟨_,rfl⟩
 have hX1:w1.heap[w.heap.size]? =some (aG n):=by rw[hw1];exact aj _ _
 have hb1:Below w.heap.size w w1:=by rw[hw1];exact(J _ w).alloc (U _) _
 have hto1:cu w0.heap.size b l nm w w1:=cu.put h hb1
 have HT1:=I hto1
 have hne:w.heap.size≠b:=by have:=h.lt;omega
 have HXk:Hid (∀W,Kp b w1 W->aL W ⟨w.heap.size,0,none⟩ n):=fun W hW=>ak (hW _ _ _ _ hne (by decide) hX1)
 obtain⟨d0,d1,d2,d3,d4,d5,d6,d7⟩:=ak hX1
 rw[hk]at d0
 obtain⟨bx,hbx⟩:∃bx,bx=w.heap.size:=⟨_,rfl⟩
 rw[<- hbx]at d0 d1 d2 d3 d4 d5 d6 d7 HXk
 have HCC:=I (HC w1 hb1)
 simp only[cz]at HCC
 rw[hk]at HCC
 clear h HC hk
 simp only[aG]at hw1
 clear hX1 hb1 hto1 hne
 go_enter func25,ntmps25
 go_upto_region 1 with fail
 rw[<- hw1, <-hbx]
 clear hw1 hbx
 go_wp2_with fail
 refine HCC.o.mono ?_
 rintro e w2 ⟨rfl,hto2⟩
 have HT2:=I (HT1.o.trans hto2)
 clear hto2 HCC HT1 HXk d0 d1 d2 d3 d4 d5 d6 d7
 go_wp2
 go_end0
 exact⟨rfl,HT2.o⟩
theorem vj(w0:World)(b:Nat)(nm:Value)(n:NV)(T:List UInt8)(l:List UInt8)(w:World)(h:Wr w0.heap.size b l nm w)(HC:∀W,Calls prog 45 #[.int .i64 1] W fun e w'=>e=.returned (.string ⟨T.toArray⟩)/\w'=W)(hlen:l.length+T.length<=140737488355328)(hk:n.kind=1):Calls prog 25 #[.pointer (some ⟨b,0,none⟩),cz n] w fun e w'=>e=.returned (.tuple #[])/\cu w0.heap.size b (l++T) nm w w':=by
 obtain⟨w1,hw1⟩:∃w1,w1=w.alloc (aG n):=⟨_,rfl⟩
 have hX1:w1.heap[w.heap.size]? =some (aG n):=by rw[hw1];exact aj _ _
 have hb1:Below w.heap.size w w1:=by rw[hw1];exact(J _ w).alloc (U _) _
 have hto1:cu w0.heap.size b l nm w w1:=cu.put h hb1
 have HT1:=I hto1
 have hne:w.heap.size≠b:=by have:=h.lt;omega
 have HXk:Hid (∀W,Kp b w1 W->aL W ⟨w.heap.size,0,none⟩ n):=fun W hW=>ak (hW _ _ _ _ hne (by decide) hX1)
 obtain⟨d0,d1,d2,d3,d4,d5,d6,d7⟩:=ak hX1
 rw[hk]at d0
 obtain⟨bx,hbx⟩:∃bx,bx=w.heap.size:=⟨_,rfl⟩
 rw[<- hbx]at d0 d1 d2 d3 d4 d5 d6 d7 HXk
 have HCC:=I (HC w1)
 have HP:=I (gn w0.heap.size b l nm T w1 hto1.1 hlen)
 obtain⟨S,hS⟩:∃S:ByteArray,S=⟨T.toArray⟩:=⟨_,rfl⟩
 rw[<- hS]at HCC HP
 clear h HC hk hlen hS
 simp only[aG]at hw1
 clear hX1 hb1 hto1 hne
 go_enter func25,ntmps25
 go_upto_region 1 with fail
 rw[<- hw1, <-hbx]
 clear hw1 hbx
 go_wp2_with fail
 refine HCC.o.mono ?_
 rintro e w' ⟨rfl,hh⟩
 have hh2:=hh.symm
 subst hh2
 clear HCC
 go_wp2_with fail
 refine HP.o.mono ?_
 rintro e w2 ⟨rfl,hto2⟩
 have HT2:=I (HT1.o.trans hto2)
 clear hto2 HP HT1 HXk d0 d1 d2 d3 d4 d5 d6 d7
 go_wp2
 go_end0
 exact⟨rfl,HT2.o⟩
theorem wH(w0:World)(b:Nat)(nm:Value)(n:NV)(T:List UInt8)(l:List UInt8)(w:World)(h:Wr w0.heap.size b l nm w)(HC:∀W,Calls prog 45 #[.int .i64 3] W fun e w'=>e=.returned (.string ⟨T.toArray⟩)/\w'=W)(hlen:l.length+T.length<=140737488355328)(hk:n.kind=3):Calls prog 25 #[.pointer (some ⟨b,0,none⟩),cz n] w fun e w'=>e=.returned (.tuple #[])/\cu w0.heap.size b (l++T) nm w w':=by
 obtain⟨w1,hw1⟩:∃w1,w1=w.alloc (aG n):=⟨_,rfl⟩
 have hX1:w1.heap[w.heap.size]? =some (aG n):=by rw[hw1];exact aj _ _
 have hb1:Below w.heap.size w w1:=by rw[hw1];exact(J _ w).alloc (U _) _
 have hto1:cu w0.heap.size b l nm w w1:=cu.put h hb1
 have HT1:=I hto1
 have hne:w.heap.size≠b:=by have:=h.lt;omega
 have HXk:Hid (∀W,Kp b w1 W->aL W ⟨w.heap.size,0,none⟩ n):=fun W hW=>ak (hW _ _ _ _ hne (by decide) hX1)
 obtain⟨d0,d1,d2,d3,d4,d5,d6,d7⟩:=ak hX1
 rw[hk]at d0
 obtain⟨bx,hbx⟩:∃bx,bx=w.heap.size:=⟨_,rfl⟩
 rw[<- hbx]at d0 d1 d2 d3 d4 d5 d6 d7 HXk
 have HCC:=I (HC w1)
 have HP:=I (gn w0.heap.size b l nm T w1 hto1.1 hlen)
 obtain⟨S,hS⟩:∃S:ByteArray,S=⟨T.toArray⟩:=⟨_,rfl⟩
 rw[<- hS]at HCC HP
 clear h HC hk hlen hS
 simp only[aG]at hw1
 clear hX1 hb1 hto1 hne
 go_enter func25,ntmps25
 go_upto_region 1 with fail
 rw[<- hw1, <-hbx]
 clear hw1 hbx
 go_wp2_with fail
 refine HCC.o.mono ?_
 rintro e w' ⟨rfl,hh⟩
 have hh2:=hh.symm
 subst hh2
 clear HCC
 go_wp2_with fail
 refine HP.o.mono ?_
 rintro e w2 ⟨rfl,hto2⟩
 have HT2:=I (HT1.o.trans hto2)
 clear hto2 HP HT1 HXk d0 d1 d2 d3 d4 d5 d6 d7
 go_wp2
 go_end0
 exact⟨rfl,HT2.o⟩
theorem wN(w0:World)(b:Nat)(nm:Value)(n:NV)(T:List UInt8)(l:List UInt8)(w:World)(h:Wr w0.heap.size b l nm w)(HC:∀W,Calls prog 45 #[.int .i64 4] W fun e w'=>e=.returned (.string ⟨T.toArray⟩)/\w'=W)(hlen:l.length+T.length<=140737488355328)(hk:n.kind=4):Calls prog 25 #[.pointer (some ⟨b,0,none⟩),cz n] w fun e w'=>e=.returned (.tuple #[])/\cu w0.heap.size b (l++T) nm w w':=by
 obtain⟨w1,hw1⟩:∃w1,w1=w.alloc (aG n):=⟨_,rfl⟩
 have hX1:w1.heap[w.heap.size]? =some (aG n):=by rw[hw1];exact aj _ _
 have hb1:Below w.heap.size w w1:=by rw[hw1];exact(J _ w).alloc (U _) _
 have hto1:cu w0.heap.size b l nm w w1:=cu.put h hb1
 have HT1:=I hto1
 have hne:w.heap.size≠b:=by have:=h.lt;omega
 have HXk:Hid (∀W,Kp b w1 W->aL W ⟨w.heap.size,0,none⟩ n):=fun W hW=>ak (hW _ _ _ _ hne (by decide) hX1)
 obtain⟨d0,d1,d2,d3,d4,d5,d6,d7⟩:=ak hX1
 rw[hk]at d0
 obtain⟨bx,hbx⟩:∃bx,bx=w.heap.size:=⟨_,rfl⟩
 rw[<- hbx]at d0 d1 d2 d3 d4 d5 d6 d7 HXk
 have HCC:=I (HC w1)
 have HP:=I (gn w0.heap.size b l nm T w1 hto1.1 hlen)
 obtain⟨S,hS⟩:∃S:ByteArray,S=⟨T.toArray⟩:=⟨_,rfl⟩
 rw[<- hS]at HCC HP
 clear h HC hk hlen hS
 simp only[aG]at hw1
 clear hX1 hb1 hto1 hne
 go_enter func25,ntmps25
 go_upto_region 1 with fail
 rw[<- hw1, <-hbx]
 clear hw1 hbx
 go_wp2_with fail
 refine HCC.o.mono ?_
 rintro e w' ⟨rfl,hh⟩
 have hh2:=hh.symm
 subst hh2
 clear HCC
 go_wp2_with fail
 refine HP.o.mono ?_
 rintro e w2 ⟨rfl,hto2⟩
 have HT2:=I (HT1.o.trans hto2)
 clear hto2 HP HT1 HXk d0 d1 d2 d3 d4 d5 d6 d7
 go_wp2
 go_end0
 exact⟨rfl,HT2.o⟩
theorem vn(w0:World)(b:Nat)(nm:Value)(n:NV)(T:List UInt8)(l:List UInt8)(w:World)(h:Wr w0.heap.size b l nm w)(HC:∀W,Calls prog 45 #[.int .i64 5] W fun e w'=>e=.returned (.string ⟨T.toArray⟩)/\w'=W)(hlen:l.length+T.length<=140737488355328)(hk:n.kind=5):Calls prog 25 #[.pointer (some ⟨b,0,none⟩),cz n] w fun e w'=>e=.returned (.tuple #[])/\cu w0.heap.size b (l++T) nm w w':=by
 obtain⟨w1,hw1⟩:∃w1,w1=w.alloc (aG n):=⟨_,rfl⟩
 have hX1:w1.heap[w.heap.size]? =some (aG n):=by rw[hw1];exact aj _ _
 have hb1:Below w.heap.size w w1:=by rw[hw1];exact(J _ w).alloc (U _) _
 have hto1:cu w0.heap.size b l nm w w1:=cu.put h hb1
 have HT1:=I hto1
 have hne:w.heap.size≠b:=by have:=h.lt;omega
 have HXk:Hid (∀W,Kp b w1 W->aL W ⟨w.heap.size,0,none⟩ n):=fun W hW=>ak (hW _ _ _ _ hne (by decide) hX1)
 obtain⟨d0,d1,d2,d3,d4,d5,d6,d7⟩:=ak hX1
 rw[hk]at d0
 obtain⟨bx,hbx⟩:∃bx,bx=w.heap.size:=⟨_,rfl⟩
 rw[<- hbx]at d0 d1 d2 d3 d4 d5 d6 d7 HXk
 have HCC:=I (HC w1)
 have HP:=I (gn w0.heap.size b l nm T w1 hto1.1 hlen)
 obtain⟨S,hS⟩:∃S:ByteArray,S=⟨T.toArray⟩:=⟨_,rfl⟩
 rw[<- hS]at HCC HP
 clear h HC hk hlen hS
 simp only[aG]at hw1
 clear hX1 hb1 hto1 hne
 go_enter func25,ntmps25
 go_upto_region 1 with fail
 rw[<- hw1, <-hbx]
 clear hw1 hbx
 go_wp2_with fail
 refine HCC.o.mono ?_
 rintro e w' ⟨rfl,hh⟩
 have hh2:=hh.symm
 subst hh2
 clear HCC
 go_wp2_with fail
 refine HP.o.mono ?_
 rintro e w2 ⟨rfl,hto2⟩
 have HT2:=I (HT1.o.trans hto2)
 clear hto2 HP HT1 HXk d0 d1 d2 d3 d4 d5 d6 d7
 go_wp2
 go_end0
 exact⟨rfl,HT2.o⟩
theorem vO(w0:World)(b:Nat)(nm:Value)(n:NV)(T:List UInt8)(l:List UInt8)(w:World)(h:Wr w0.heap.size b l nm w)(HC:∀W,Calls prog 45 #[.int .i64 6] W fun e w'=>e=.returned (.string ⟨T.toArray⟩)/\w'=W)(hlen:l.length+T.length<=140737488355328)(hk:n.kind=6):Calls prog 25 #[.pointer (some ⟨b,0,none⟩),cz n] w fun e w'=>e=.returned (.tuple #[])/\cu w0.heap.size b (l++T) nm w w':=by
 obtain⟨w1,hw1⟩:∃w1,w1=w.alloc (aG n):=⟨_,rfl⟩
 have hX1:w1.heap[w.heap.size]? =some (aG n):=by rw[hw1];exact aj _ _
 have hb1:Below w.heap.size w w1:=by rw[hw1];exact(J _ w).alloc (U _) _
 have hto1:cu w0.heap.size b l nm w w1:=cu.put h hb1
 have HT1:=I hto1
 have hne:w.heap.size≠b:=by have:=h.lt;omega
 have HXk:Hid (∀W,Kp b w1 W->aL W ⟨w.heap.size,0,none⟩ n):=fun W hW=>ak (hW _ _ _ _ hne (by decide) hX1)
 obtain⟨d0,d1,d2,d3,d4,d5,d6,d7⟩:=ak hX1
 rw[hk]at d0
 obtain⟨bx,hbx⟩:∃bx,bx=w.heap.size:=⟨_,rfl⟩
 rw[<- hbx]at d0 d1 d2 d3 d4 d5 d6 d7 HXk
 have HCC:=I (HC w1)
 have HP:=I (gn w0.heap.size b l nm T w1 hto1.1 hlen)
 obtain⟨S,hS⟩:∃S:ByteArray,S=⟨T.toArray⟩:=⟨_,rfl⟩
 rw[<- hS]at HCC HP
 clear h HC hk hlen hS
 simp only[aG]at hw1
 clear hX1 hb1 hto1 hne
 go_enter func25,ntmps25
 go_upto_region 1 with fail
 rw[<- hw1, <-hbx]
 clear hw1 hbx
 go_wp2_with fail
 refine HCC.o.mono ?_
 rintro e w' ⟨rfl,hh⟩
 have hh2:=hh.symm
 subst hh2
 clear HCC
 go_wp2_with fail
 refine HP.o.mono ?_
 rintro e w2 ⟨rfl,hto2⟩
 have HT2:=I (HT1.o.trans hto2)
 clear hto2 HP HT1 HXk d0 d1 d2 d3 d4 d5 d6 d7
 go_wp2
 go_end0
 exact⟨rfl,HT2.o⟩
theorem uT(w0:World)(b:Nat)(nm:Value)(n:NV)(T:List UInt8)(l:List UInt8)(w:World)(h:Wr w0.heap.size b l nm w)(HC:∀W,Calls prog 45 #[.int .i64 7] W fun e w'=>e=.returned (.string ⟨T.toArray⟩)/\w'=W)(hlen:l.length+T.length<=140737488355328)(hk:n.kind=7):Calls prog 25 #[.pointer (some ⟨b,0,none⟩),cz n] w fun e w'=>e=.returned (.tuple #[])/\cu w0.heap.size b (l++T) nm w w':=by
 obtain⟨w1,hw1⟩:∃w1,w1=w.alloc (aG n):=⟨_,rfl⟩
 have hX1:w1.heap[w.heap.size]? =some (aG n):=by rw[hw1];exact aj _ _
 have hb1:Below w.heap.size w w1:=by rw[hw1];exact(J _ w).alloc (U _) _
 have hto1:cu w0.heap.size b l nm w w1:=cu.put h hb1
 have HT1:=I hto1
 have hne:w.heap.size≠b:=by have:=h.lt;omega
 have HXk:Hid (∀W,Kp b w1 W->aL W ⟨w.heap.size,0,none⟩ n):=fun W hW=>ak (hW _ _ _ _ hne (by decide) hX1)
 obtain⟨d0,d1,d2,d3,d4,d5,d6,d7⟩:=ak hX1
 rw[hk]at d0
 obtain⟨bx,hbx⟩:∃bx,bx=w.heap.size:=⟨_,rfl⟩
 rw[<- hbx]at d0 d1 d2 d3 d4 d5 d6 d7 HXk
 have HCC:=I (HC w1)
 have HP:=I (gn w0.heap.size b l nm T w1 hto1.1 hlen)
 obtain⟨S,hS⟩:∃S:ByteArray,S=⟨T.toArray⟩:=⟨_,rfl⟩
 rw[<- hS]at HCC HP
 clear h HC hk hlen hS
 simp only[aG]at hw1
 clear hX1 hb1 hto1 hne
 go_enter func25,ntmps25
 go_upto_region 1 with fail
 rw[<- hw1, <-hbx]
 clear hw1 hbx
 go_wp2_with fail
 refine HCC.o.mono ?_
 rintro e w' ⟨rfl,hh⟩
 have hh2:=hh.symm
 subst hh2
 clear HCC
 go_wp2_with fail
 refine HP.o.mono ?_
 rintro e w2 ⟨rfl,hto2⟩
 have HT2:=I (HT1.o.trans hto2)
 clear hto2 HP HT1 HXk d0 d1 d2 d3 d4 d5 d6 d7
 go_wp2
 go_end0
 exact⟨rfl,HT2.o⟩
theorem vM(w0:World)(b:Nat)(nm:Value)(n:NV)(T:List UInt8)(l:List UInt8)(w:World)(h:Wr w0.heap.size b l nm w)(HC:∀W,Calls prog 45 #[.int .i64 8] W fun e w'=>e=.returned (.string ⟨T.toArray⟩)/\w'=W)(hlen:l.length+T.length<=140737488355328)(hk:n.kind=8):Calls prog 25 #[.pointer (some ⟨b,0,none⟩),cz n] w fun e w'=>e=.returned (.tuple #[])/\cu w0.heap.size b (l++T) nm w w':=by
 obtain⟨w1,hw1⟩:∃w1,w1=w.alloc (aG n):=⟨_,rfl⟩
 have hX1:w1.heap[w.heap.size]? =some (aG n):=by rw[hw1];exact aj _ _
 have hb1:Below w.heap.size w w1:=by rw[hw1];exact(J _ w).alloc (U _) _
 have hto1:cu w0.heap.size b l nm w w1:=cu.put h hb1
 have HT1:=I hto1
 have hne:w.heap.size≠b:=by have:=h.lt;omega
 have HXk:Hid (∀W,Kp b w1 W->aL W ⟨w.heap.size,0,none⟩ n):=fun W hW=>ak (hW _ _ _ _ hne (by decide) hX1)
 obtain⟨d0,d1,d2,d3,d4,d5,d6,d7⟩:=ak hX1
 rw[hk]at d0
 obtain⟨bx,hbx⟩:∃bx,bx=w.heap.size:=⟨_,rfl⟩
 rw[<- hbx]at d0 d1 d2 d3 d4 d5 d6 d7 HXk
 have HCC:=I (HC w1)
 have HP:=I (gn w0.heap.size b l nm T w1 hto1.1 hlen)
 obtain⟨S,hS⟩:∃S:ByteArray,S=⟨T.toArray⟩:=⟨_,rfl⟩
 rw[<- hS]at HCC HP
 clear h HC hk hlen hS
 simp only[aG]at hw1
 clear hX1 hb1 hto1 hne
 go_enter func25,ntmps25
 go_upto_region 1 with fail
 rw[<- hw1, <-hbx]
 clear hw1 hbx
 go_wp2_with fail
 refine HCC.o.mono ?_
 rintro e w' ⟨rfl,hh⟩
 have hh2:=hh.symm
 subst hh2
 clear HCC
 go_wp2_with fail
 refine HP.o.mono ?_
 rintro e w2 ⟨rfl,hto2⟩
 have HT2:=I (HT1.o.trans hto2)
 clear hto2 HP HT1 HXk d0 d1 d2 d3 d4 d5 d6 d7
 go_wp2
 go_end0
 exact⟨rfl,HT2.o⟩
theorem tv(w0:World)(b:Nat)(nm:Value)(n:NV)(T:List UInt8)(l:List UInt8)(w:World)(h:Wr w0.heap.size b l nm w)(v:NV)(x:Addr)(O K:List UInt8)(hT:T=O++(K++[41]))(hka:n.ka=some x)(hkl:n.kl=1)(hc0:∀W,Below w0.heap.size w W->aL W x v)(HO:∀W,Below w.heap.size w W->Calls prog 44 #[.pointer (some ⟨b,0,none⟩),cz n] W fun e w'=>e=.returned (.string ⟨O.toArray⟩)/\Below W.heap.size W w')(HG:∀l W,Below w0.heap.size w W->Wr w0.heap.size b l nm W->l.length+K.length<=140737488355328->Calls prog 25 #[.pointer (some ⟨b,0,none⟩),cz v] W fun e w'=>e=.returned (.tuple #[])/\cu w0.heap.size b (l++K) nm W w')(hlen:l.length+T.length<=140737488355328)(hk:n.kind=11):Calls prog 25 #[.pointer (some ⟨b,0,none⟩),cz n] w fun e w'=>e=.returned (.tuple #[])/\cu w0.heap.size b (l++T) nm w w':=by
 obtain⟨w1,hw1⟩:∃w1,w1=w.alloc (aG n):=⟨_,rfl⟩
 have hX1:w1.heap[w.heap.size]? =some (aG n):=by rw[hw1];exact aj _ _
 have hb1:Below w.heap.size w w1:=by rw[hw1];exact(J _ w).alloc (U _) _
 have hto1:cu w0.heap.size b l nm w w1:=cu.put h hb1
 have HT1:=I hto1
 have hne:w.heap.size≠b:=by have:=h.lt;omega
 have HXk:Hid (∀W,Kp b w1 W->aL W ⟨w.heap.size,0,none⟩ n):=fun W hW=>ak (hW _ _ _ _ hne (by decide) hX1)
 obtain⟨d0,d1,d2,d3,d4,d5,d6,d7⟩:=ak hX1
 rw[hk]at d0
 obtain⟨bx,hbx⟩:∃bx,bx=w.heap.size:=⟨_,rfl⟩
 rw[<- hbx]at d0 d1 d2 d3 d4 d5 d6 d7 HXk
 have HOO:=I (HO w1 hb1)
 have HGG:=I HG
 have HC0:=I hc0
 simp only[cz]at HOO HGG
 rw[hk]at HOO
 obtain⟨S,hS⟩:∃S:ByteArray,S=⟨O.toArray⟩:=⟨_,rfl⟩
 rw[<- hS]at HOO
 have HS:=I hS
 have HTT:=I hT
 have hl2:l.length+(O.length+(K.length+1))<=140737488355328:=by rw[hT]at hlen;simp at hlen;omega
 have HX2:Hid (∀W,Kp b w1 W->W.cell? ⟨bx,2,none⟩=some (.slice (some x) 1 n.kc)):=fun W hW=>by
  have:=(HXk.o W hW).c2
  rw[hka,hkl]at this
  exact this
 clear h HO HG hk hlen hS hT hc0 hka hkl HXk
 simp only[aG]at hw1
 clear hX1 hb1 hto1 hne
 go_enter func25,ntmps25
 go_upto_region 1 with fail
 rw[<- hw1, <-hbx]
 clear hw1 hbx
 go_wp2_with fail
 refine HOO.o.mono ?_
 rintro e w2 ⟨rfl,hb2⟩
 have HT2:=I (HT1.o.then hb2)
 have HK2:Hid (Kp b w1 w2):=Kp.below hb2
 have HP:=I (gn w0.heap.size b l nm O w2 HT2.o.1 (by omega))
 rw[<- HS.o]at HP
 clear hb2 HOO HT1 d0 d1 d2 d3 d4 d5 d6 d7
 go_wp2_with fail
 refine HP.o.mono ?_
 rintro e w3 ⟨rfl,hto3⟩
 have HT3:=I (HT2.o.trans hto3)
 have HK3:Hid (Kp b w1 w3):=HK2.o.trans hto3.2.2
 have q2:=HX2.o w3 HK3.o
 obtain⟨m0,m1,m2,m3,m4,m5,m6,m7⟩:=HC0.o w3 HT3.o.2.1
 have HN:=I (HGG.o (l++O) w3 HT3.o.2.1 HT3.o.1 (by simp;omega))
 clear hto3 HP HT2 HK2 HGG HS
 go_wp2_with fail
 refine HN.o.mono ?_
 rintro e w4 ⟨rfl,hto4⟩
 have HT4:=I (HT3.o.trans hto4)
 have HP2:=I (gn w0.heap.size b _ nm [41] w4 HT4.o.1 (by simp;omega))
 clear hto4 HN HT3 HK3 q2 m0 m1 m2 m3 m4 m5 m6 m7 HC0 HX2
 simp only[List.toArray]at HP2
 go_wp2_with fail
 refine HP2.o.mono ?_
 rintro e w5 ⟨rfl,hto5⟩
 have HT5:Hid (cu w0.heap.size b (l++T) nm w w5):=by
  have:=HT4.o.trans hto5
  show cu _ _ _ _ _ _
  rw[HTT.o]
  simpa using this
 clear hto5 HP2 HT4
 go_wp2
 go_end0
 exact⟨rfl,HT5.o⟩
theorem tp(w0:World)(b:Nat)(nm:Value)(n:NV)(T:List UInt8)(l:List UInt8)(w:World)(h:Wr w0.heap.size b l nm w)(v:NV)(x:Addr)(O K:List UInt8)(hT:T=O++(K++[41]))(hka:n.ka=some x)(hkl:n.kl=1)(hc0:∀W,Below w0.heap.size w W->aL W x v)(HO:∀W,Below w.heap.size w W->Calls prog 44 #[.pointer (some ⟨b,0,none⟩),cz n] W fun e w'=>e=.returned (.string ⟨O.toArray⟩)/\Below W.heap.size W w')(HG:∀l W,Below w0.heap.size w W->Wr w0.heap.size b l nm W->l.length+K.length<=140737488355328->Calls prog 25 #[.pointer (some ⟨b,0,none⟩),cz v] W fun e w'=>e=.returned (.tuple #[])/\cu w0.heap.size b (l++K) nm W w')(hlen:l.length+T.length<=140737488355328)(hk:n.kind=13):Calls prog 25 #[.pointer (some ⟨b,0,none⟩),cz n] w fun e w'=>e=.returned (.tuple #[])/\cu w0.heap.size b (l++T) nm w w':=by
 obtain⟨w1,hw1⟩:∃w1,w1=w.alloc (aG n):=⟨_,rfl⟩
 have hX1:w1.heap[w.heap.size]? =some (aG n):=by rw[hw1];exact aj _ _
 have hb1:Below w.heap.size w w1:=by rw[hw1];exact(J _ w).alloc (U _) _
 have hto1:cu w0.heap.size b l nm w w1:=cu.put h hb1
 have HT1:=I hto1
 have hne:w.heap.size≠b:=by have:=h.lt;omega
 have HXk:Hid (∀W,Kp b w1 W->aL W ⟨w.heap.size,0,none⟩ n):=fun W hW=>ak (hW _ _ _ _ hne (by decide) hX1)
 obtain⟨d0,d1,d2,d3,d4,d5,d6,d7⟩:=ak hX1
 rw[hk]at d0
 obtain⟨bx,hbx⟩:∃bx,bx=w.heap.size:=⟨_,rfl⟩
 rw[<- hbx]at d0 d1 d2 d3 d4 d5 d6 d7 HXk
 have HOO:=I (HO w1 hb1)
 have HGG:=I HG
 have HC0:=I hc0
 simp only[cz]at HOO HGG
 rw[hk]at HOO
 obtain⟨S,hS⟩:∃S:ByteArray,S=⟨O.toArray⟩:=⟨_,rfl⟩
 rw[<- hS]at HOO
 have HS:=I hS
 have HTT:=I hT
 have hl2:l.length+(O.length+(K.length+1))<=140737488355328:=by rw[hT]at hlen;simp at hlen;omega
 have HX2:Hid (∀W,Kp b w1 W->W.cell? ⟨bx,2,none⟩=some (.slice (some x) 1 n.kc)):=fun W hW=>by
  have:=(HXk.o W hW).c2
  rw[hka,hkl]at this
  exact this
 clear h HO HG hk hlen hS hT hc0 hka hkl HXk
 simp only[aG]at hw1
 clear hX1 hb1 hto1 hne
 go_enter func25,ntmps25
 go_upto_region 1 with fail
 rw[<- hw1, <-hbx]
 clear hw1 hbx
 go_wp2_with fail
 refine HOO.o.mono ?_
 rintro e w2 ⟨rfl,hb2⟩
 have HT2:=I (HT1.o.then hb2)
 have HK2:Hid (Kp b w1 w2):=Kp.below hb2
 have HP:=I (gn w0.heap.size b l nm O w2 HT2.o.1 (by omega))
 rw[<- HS.o]at HP
 clear hb2 HOO HT1 d0 d1 d2 d3 d4 d5 d6 d7
 go_wp2_with fail
 refine HP.o.mono ?_
 rintro e w3 ⟨rfl,hto3⟩
 have HT3:=I (HT2.o.trans hto3)
 have HK3:Hid (Kp b w1 w3):=HK2.o.trans hto3.2.2
 have q2:=HX2.o w3 HK3.o
 obtain⟨m0,m1,m2,m3,m4,m5,m6,m7⟩:=HC0.o w3 HT3.o.2.1
 have HN:=I (HGG.o (l++O) w3 HT3.o.2.1 HT3.o.1 (by simp;omega))
 clear hto3 HP HT2 HK2 HGG HS
 go_wp2_with fail
 refine HN.o.mono ?_
 rintro e w4 ⟨rfl,hto4⟩
 have HT4:=I (HT3.o.trans hto4)
 have HP2:=I (gn w0.heap.size b _ nm [41] w4 HT4.o.1 (by simp;omega))
 clear hto4 HN HT3 HK3 q2 m0 m1 m2 m3 m4 m5 m6 m7 HC0 HX2
 simp only[List.toArray]at HP2
 go_wp2_with fail
 refine HP2.o.mono ?_
 rintro e w5 ⟨rfl,hto5⟩
 have HT5:Hid (cu w0.heap.size b (l++T) nm w w5):=by
  have:=HT4.o.trans hto5
  show cu _ _ _ _ _ _
  rw[HTT.o]
  simpa using this
 clear hto5 HP2 HT4
 go_wp2
 go_end0
 exact⟨rfl,HT5.o⟩
theorem ue(w0:World)(b:Nat)(nm:Value)(n:NV)(T:List UInt8)(l:List UInt8)(w:World)(h:Wr w0.heap.size b l nm w)(v:NV)(x:Addr)(O K:List UInt8)(hT:T=O++(K++[41]))(hka:n.ka=some x)(hkl:n.kl=1)(hc0:∀W,Below w0.heap.size w W->aL W x v)(HO:∀W,Below w.heap.size w W->Calls prog 44 #[.pointer (some ⟨b,0,none⟩),cz n] W fun e w'=>e=.returned (.string ⟨O.toArray⟩)/\Below W.heap.size W w')(HG:∀l W,Below w0.heap.size w W->Wr w0.heap.size b l nm W->l.length+K.length<=140737488355328->Calls prog 25 #[.pointer (some ⟨b,0,none⟩),cz v] W fun e w'=>e=.returned (.tuple #[])/\cu w0.heap.size b (l++K) nm W w')(hlen:l.length+T.length<=140737488355328)(hk:n.kind=14):Calls prog 25 #[.pointer (some ⟨b,0,none⟩),cz n] w fun e w'=>e=.returned (.tuple #[])/\cu w0.heap.size b (l++T) nm w w':=by
 obtain⟨w1,hw1⟩:∃w1,w1=w.alloc (aG n):=⟨_,rfl⟩
 have hX1:w1.heap[w.heap.size]? =some (aG n):=by rw[hw1];exact aj _ _
 have hb1:Below w.heap.size w w1:=by rw[hw1];exact(J _ w).alloc (U _) _
 have hto1:cu w0.heap.size b l nm w w1:=cu.put h hb1
 have HT1:=I hto1
 have hne:w.heap.size≠b:=by have:=h.lt;omega
 have HXk:Hid (∀W,Kp b w1 W->aL W ⟨w.heap.size,0,none⟩ n):=fun W hW=>ak (hW _ _ _ _ hne (by decide) hX1)
 obtain⟨d0,d1,d2,d3,d4,d5,d6,d7⟩:=ak hX1
 rw[hk]at d0
 obtain⟨bx,hbx⟩:∃bx,bx=w.heap.size:=⟨_,rfl⟩
 rw[<- hbx]at d0 d1 d2 d3 d4 d5 d6 d7 HXk
 have HOO:=I (HO w1 hb1)
 have HGG:=I HG
 have HC0:=I hc0
 simp only[cz]at HOO HGG
 rw[hk]at HOO
 obtain⟨S,hS⟩:∃S:ByteArray,S=⟨O.toArray⟩:=⟨_,rfl⟩
 rw[<- hS]at HOO
 have HS:=I hS
 have HTT:=I hT
 have hl2:l.length+(O.length+(K.length+1))<=140737488355328:=by rw[hT]at hlen;simp at hlen;omega
 have HX2:Hid (∀W,Kp b w1 W->W.cell? ⟨bx,2,none⟩=some (.slice (some x) 1 n.kc)):=fun W hW=>by
  have:=(HXk.o W hW).c2
  rw[hka,hkl]at this
  exact this
 clear h HO HG hk hlen hS hT hc0 hka hkl HXk
 simp only[aG]at hw1
 clear hX1 hb1 hto1 hne
 go_enter func25,ntmps25
 go_upto_region 1 with fail
 rw[<- hw1, <-hbx]
 clear hw1 hbx
 go_wp2_with fail
 refine HOO.o.mono ?_
 rintro e w2 ⟨rfl,hb2⟩
 have HT2:=I (HT1.o.then hb2)
 have HK2:Hid (Kp b w1 w2):=Kp.below hb2
 have HP:=I (gn w0.heap.size b l nm O w2 HT2.o.1 (by omega))
 rw[<- HS.o]at HP
 clear hb2 HOO HT1 d0 d1 d2 d3 d4 d5 d6 d7
 go_wp2_with fail
 refine HP.o.mono ?_
 rintro e w3 ⟨rfl,hto3⟩
 have HT3:=I (HT2.o.trans hto3)
 have HK3:Hid (Kp b w1 w3):=HK2.o.trans hto3.2.2
 have q2:=HX2.o w3 HK3.o
 obtain⟨m0,m1,m2,m3,m4,m5,m6,m7⟩:=HC0.o w3 HT3.o.2.1
 have HN:=I (HGG.o (l++O) w3 HT3.o.2.1 HT3.o.1 (by simp;omega))
 clear hto3 HP HT2 HK2 HGG HS
 go_wp2_with fail
 refine HN.o.mono ?_
 rintro e w4 ⟨rfl,hto4⟩
 have HT4:=I (HT3.o.trans hto4)
 have HP2:=I (gn w0.heap.size b _ nm [41] w4 HT4.o.1 (by simp;omega))
 clear hto4 HN HT3 HK3 q2 m0 m1 m2 m3 m4 m5 m6 m7 HC0 HX2
 simp only[List.toArray]at HP2
 go_wp2_with fail
 refine HP2.o.mono ?_
 rintro e w5 ⟨rfl,hto5⟩
 have HT5:Hid (cu w0.heap.size b (l++T) nm w w5):=by
  have:=HT4.o.trans hto5
  show cu _ _ _ _ _ _
  rw[HTT.o]
  simpa using this
 clear hto5 HP2 HT4
 go_wp2
 go_end0
 exact⟨rfl,HT5.o⟩
theorem tJ(w0:World)(b:Nat)(nm:Value)(n:NV)(T:List UInt8)(l:List UInt8)(w:World)(h:Wr w0.heap.size b l nm w)(v:NV)(x:Addr)(O K:List UInt8)(hT:T=O++(K++[41]))(hka:n.ka=some x)(hkl:n.kl=1)(hc0:∀W,Below w0.heap.size w W->aL W x v)(HO:∀W,Below w.heap.size w W->Calls prog 44 #[.pointer (some ⟨b,0,none⟩),cz n] W fun e w'=>e=.returned (.string ⟨O.toArray⟩)/\Below W.heap.size W w')(HG:∀l W,Below w0.heap.size w W->Wr w0.heap.size b l nm W->l.length+K.length<=140737488355328->Calls prog 25 #[.pointer (some ⟨b,0,none⟩),cz v] W fun e w'=>e=.returned (.tuple #[])/\cu w0.heap.size b (l++K) nm W w')(hlen:l.length+T.length<=140737488355328)(hk:n.kind=15):Calls prog 25 #[.pointer (some ⟨b,0,none⟩),cz n] w fun e w'=>e=.returned (.tuple #[])/\cu w0.heap.size b (l++T) nm w w':=by
 obtain⟨w1,hw1⟩:∃w1,w1=w.alloc (aG n):=⟨_,rfl⟩
 have hX1:w1.heap[w.heap.size]? =some (aG n):=by rw[hw1];exact aj _ _
 have hb1:Below w.heap.size w w1:=by rw[hw1];exact(J _ w).alloc (U _) _
 have hto1:cu w0.heap.size b l nm w w1:=cu.put h hb1
 have HT1:=I hto1
 have hne:w.heap.size≠b:=by have:=h.lt;omega
 have HXk:Hid (∀W,Kp b w1 W->aL W ⟨w.heap.size,0,none⟩ n):=fun W hW=>ak (hW _ _ _ _ hne (by decide) hX1)
 obtain⟨d0,d1,d2,d3,d4,d5,d6,d7⟩:=ak hX1
 rw[hk]at d0
 obtain⟨bx,hbx⟩:∃bx,bx=w.heap.size:=⟨_,rfl⟩
 rw[<- hbx]at d0 d1 d2 d3 d4 d5 d6 d7 HXk
 have HOO:=I (HO w1 hb1)
 have HGG:=I HG
 have HC0:=I hc0
 simp only[cz]at HOO HGG
 rw[hk]at HOO
 obtain⟨S,hS⟩:∃S:ByteArray,S=⟨O.toArray⟩:=⟨_,rfl⟩
 rw[<- hS]at HOO
 have HS:=I hS
 have HTT:=I hT
 have hl2:l.length+(O.length+(K.length+1))<=140737488355328:=by rw[hT]at hlen;simp at hlen;omega
 have HX2:Hid (∀W,Kp b w1 W->W.cell? ⟨bx,2,none⟩=some (.slice (some x) 1 n.kc)):=fun W hW=>by
  have:=(HXk.o W hW).c2
  rw[hka,hkl]at this
  exact this
 clear h HO HG hk hlen hS hT hc0 hka hkl HXk
 simp only[aG]at hw1
 clear hX1 hb1 hto1 hne
 go_enter func25,ntmps25
 go_upto_region 1 with fail
 rw[<- hw1, <-hbx]
 clear hw1 hbx
 go_wp2_with fail
 refine HOO.o.mono ?_
 rintro e w2 ⟨rfl,hb2⟩
 have HT2:=I (HT1.o.then hb2)
 have HK2:Hid (Kp b w1 w2):=Kp.below hb2
 have HP:=I (gn w0.heap.size b l nm O w2 HT2.o.1 (by omega))
 rw[<- HS.o]at HP
 clear hb2 HOO HT1 d0 d1 d2 d3 d4 d5 d6 d7
 go_wp2_with fail
 refine HP.o.mono ?_
 rintro e w3 ⟨rfl,hto3⟩
 have HT3:=I (HT2.o.trans hto3)
 have HK3:Hid (Kp b w1 w3):=HK2.o.trans hto3.2.2
 have q2:=HX2.o w3 HK3.o
 obtain⟨m0,m1,m2,m3,m4,m5,m6,m7⟩:=HC0.o w3 HT3.o.2.1
 have HN:=I (HGG.o (l++O) w3 HT3.o.2.1 HT3.o.1 (by simp;omega))
 clear hto3 HP HT2 HK2 HGG HS
 go_wp2_with fail
 refine HN.o.mono ?_
 rintro e w4 ⟨rfl,hto4⟩
 have HT4:=I (HT3.o.trans hto4)
 have HP2:=I (gn w0.heap.size b _ nm [41] w4 HT4.o.1 (by simp;omega))
 clear hto4 HN HT3 HK3 q2 m0 m1 m2 m3 m4 m5 m6 m7 HC0 HX2
 simp only[List.toArray]at HP2
 go_wp2_with fail
 refine HP2.o.mono ?_
 rintro e w5 ⟨rfl,hto5⟩
 have HT5:Hid (cu w0.heap.size b (l++T) nm w w5):=by
  have:=HT4.o.trans hto5
  show cu _ _ _ _ _ _
  rw[HTT.o]
  simpa using this
 clear hto5 HP2 HT4
 go_wp2
 go_end0
 exact⟨rfl,HT5.o⟩
theorem uy(w0:World)(b:Nat)(nm:Value)(n:NV)(T:List UInt8)(l:List UInt8)(w:World)(h:Wr w0.heap.size b l nm w)(v:NV)(x:Addr)(O K:List UInt8)(hT:T=O++(K++[41]))(hka:n.ka=some x)(hkl:n.kl=1)(hc0:∀W,Below w0.heap.size w W->aL W x v)(HO:∀W,Below w.heap.size w W->Calls prog 44 #[.pointer (some ⟨b,0,none⟩),cz n] W fun e w'=>e=.returned (.string ⟨O.toArray⟩)/\Below W.heap.size W w')(HG:∀l W,Below w0.heap.size w W->Wr w0.heap.size b l nm W->l.length+K.length<=140737488355328->Calls prog 25 #[.pointer (some ⟨b,0,none⟩),cz v] W fun e w'=>e=.returned (.tuple #[])/\cu w0.heap.size b (l++K) nm W w')(hlen:l.length+T.length<=140737488355328)(hk:n.kind=16):Calls prog 25 #[.pointer (some ⟨b,0,none⟩),cz n] w fun e w'=>e=.returned (.tuple #[])/\cu w0.heap.size b (l++T) nm w w':=by
 obtain⟨w1,hw1⟩:∃w1,w1=w.alloc (aG n):=⟨_,rfl⟩
 have hX1:w1.heap[w.heap.size]? =some (aG n):=by rw[hw1];exact aj _ _
 have hb1:Below w.heap.size w w1:=by rw[hw1];exact(J _ w).alloc (U _) _
 have hto1:cu w0.heap.size b l nm w w1:=cu.put h hb1
 have HT1:=I hto1
 have hne:w.heap.size≠b:=by have:=h.lt;omega
 have HXk:Hid (∀W,Kp b w1 W->aL W ⟨w.heap.size,0,none⟩ n):=fun W hW=>ak (hW _ _ _ _ hne (by decide) hX1)
 obtain⟨d0,d1,d2,d3,d4,d5,d6,d7⟩:=ak hX1
 rw[hk]at d0
 obtain⟨bx,hbx⟩:∃bx,bx=w.heap.size:=⟨_,rfl⟩
 rw[<- hbx]at d0 d1 d2 d3 d4 d5 d6 d7 HXk
 have HOO:=I (HO w1 hb1)
 have HGG:=I HG
 have HC0:=I hc0
 simp only[cz]at HOO HGG
 rw[hk]at HOO
 obtain⟨S,hS⟩:∃S:ByteArray,S=⟨O.toArray⟩:=⟨_,rfl⟩
 rw[<- hS]at HOO
 have HS:=I hS
 have HTT:=I hT
 have hl2:l.length+(O.length+(K.length+1))<=140737488355328:=by rw[hT]at hlen;simp at hlen;omega
 have HX2:Hid (∀W,Kp b w1 W->W.cell? ⟨bx,2,none⟩=some (.slice (some x) 1 n.kc)):=fun W hW=>by
  have:=(HXk.o W hW).c2
  rw[hka,hkl]at this
  exact this
 clear h HO HG hk hlen hS hT hc0 hka hkl HXk
 simp only[aG]at hw1
 clear hX1 hb1 hto1 hne
 go_enter func25,ntmps25
 go_upto_region 1 with fail
 rw[<- hw1, <-hbx]
 clear hw1 hbx
 go_wp2_with fail
 refine HOO.o.mono ?_
 rintro e w2 ⟨rfl,hb2⟩
 have HT2:=I (HT1.o.then hb2)
 have HK2:Hid (Kp b w1 w2):=Kp.below hb2
 have HP:=I (gn w0.heap.size b l nm O w2 HT2.o.1 (by omega))
 rw[<- HS.o]at HP
 clear hb2 HOO HT1 d0 d1 d2 d3 d4 d5 d6 d7
 go_wp2_with fail
 refine HP.o.mono ?_
 rintro e w3 ⟨rfl,hto3⟩
 have HT3:=I (HT2.o.trans hto3)
 have HK3:Hid (Kp b w1 w3):=HK2.o.trans hto3.2.2
 have q2:=HX2.o w3 HK3.o
 obtain⟨m0,m1,m2,m3,m4,m5,m6,m7⟩:=HC0.o w3 HT3.o.2.1
 have HN:=I (HGG.o (l++O) w3 HT3.o.2.1 HT3.o.1 (by simp;omega))
 clear hto3 HP HT2 HK2 HGG HS
 go_wp2_with fail
 refine HN.o.mono ?_
 rintro e w4 ⟨rfl,hto4⟩
 have HT4:=I (HT3.o.trans hto4)
 have HP2:=I (gn w0.heap.size b _ nm [41] w4 HT4.o.1 (by simp;omega))
 clear hto4 HN HT3 HK3 q2 m0 m1 m2 m3 m4 m5 m6 m7 HC0 HX2
 simp only[List.toArray]at HP2
 go_wp2_with fail
 refine HP2.o.mono ?_
 rintro e w5 ⟨rfl,hto5⟩
 have HT5:Hid (cu w0.heap.size b (l++T) nm w w5):=by
  have:=HT4.o.trans hto5
  show cu _ _ _ _ _ _
  rw[HTT.o]
  simpa using this
 clear hto5 HP2 HT4
 go_wp2
 go_end0
 exact⟨rfl,HT5.o⟩
theorem tT(w0:World)(b:Nat)(nm:Value)(n:NV)(T:List UInt8)(l:List UInt8)(w:World)(h:Wr w0.heap.size b l nm w)(v:NV)(x:Addr)(O K:List UInt8)(hT:T=O++(K++[41]))(hka:n.ka=some x)(hkl:n.kl=1)(hc0:∀W,Below w0.heap.size w W->aL W x v)(HO:∀W,Below w.heap.size w W->Calls prog 44 #[.pointer (some ⟨b,0,none⟩),cz n] W fun e w'=>e=.returned (.string ⟨O.toArray⟩)/\Below W.heap.size W w')(HG:∀l W,Below w0.heap.size w W->Wr w0.heap.size b l nm W->l.length+K.length<=140737488355328->Calls prog 25 #[.pointer (some ⟨b,0,none⟩),cz v] W fun e w'=>e=.returned (.tuple #[])/\cu w0.heap.size b (l++K) nm W w')(hlen:l.length+T.length<=140737488355328)(hk:n.kind=17):Calls prog 25 #[.pointer (some ⟨b,0,none⟩),cz n] w fun e w'=>e=.returned (.tuple #[])/\cu w0.heap.size b (l++T) nm w w':=by
 obtain⟨w1,hw1⟩:∃w1,w1=w.alloc (aG n):=⟨_,rfl⟩
 have hX1:w1.heap[w.heap.size]? =some (aG n):=by rw[hw1];exact aj _ _
 have hb1:Below w.heap.size w w1:=by rw[hw1];exact(J _ w).alloc (U _) _
 have hto1:cu w0.heap.size b l nm w w1:=cu.put h hb1
 have HT1:=I hto1
 have hne:w.heap.size≠b:=by have:=h.lt;omega
 have HXk:Hid (∀W,Kp b w1 W->aL W ⟨w.heap.size,0,none⟩ n):=fun W hW=>ak (hW _ _ _ _ hne (by decide) hX1)
 obtain⟨d0,d1,d2,d3,d4,d5,d6,d7⟩:=ak hX1
 rw[hk]at d0
 obtain⟨bx,hbx⟩:∃bx,bx=w.heap.size:=⟨_,rfl⟩
 rw[<- hbx]at d0 d1 d2 d3 d4 d5 d6 d7 HXk
 have HOO:=I (HO w1 hb1)
 have HGG:=I HG
 have HC0:=I hc0
 simp only[cz]at HOO HGG
 rw[hk]at HOO
 obtain⟨S,hS⟩:∃S:ByteArray,S=⟨O.toArray⟩:=⟨_,rfl⟩
 rw[<- hS]at HOO
 have HS:=I hS
 have HTT:=I hT
 have hl2:l.length+(O.length+(K.length+1))<=140737488355328:=by rw[hT]at hlen;simp at hlen;omega
 have HX2:Hid (∀W,Kp b w1 W->W.cell? ⟨bx,2,none⟩=some (.slice (some x) 1 n.kc)):=fun W hW=>by
  have:=(HXk.o W hW).c2
  rw[hka,hkl]at this
  exact this
 clear h HO HG hk hlen hS hT hc0 hka hkl HXk
 simp only[aG]at hw1
 clear hX1 hb1 hto1 hne
 go_enter func25,ntmps25
 go_upto_region 1 with fail
 rw[<- hw1, <-hbx]
 clear hw1 hbx
 go_wp2_with fail
 refine HOO.o.mono ?_
 rintro e w2 ⟨rfl,hb2⟩
 have HT2:=I (HT1.o.then hb2)
 have HK2:Hid (Kp b w1 w2):=Kp.below hb2
 have HP:=I (gn w0.heap.size b l nm O w2 HT2.o.1 (by omega))
 rw[<- HS.o]at HP
 clear hb2 HOO HT1 d0 d1 d2 d3 d4 d5 d6 d7
 go_wp2_with fail
 refine HP.o.mono ?_
 rintro e w3 ⟨rfl,hto3⟩
 have HT3:=I (HT2.o.trans hto3)
 have HK3:Hid (Kp b w1 w3):=HK2.o.trans hto3.2.2
 have q2:=HX2.o w3 HK3.o
 obtain⟨m0,m1,m2,m3,m4,m5,m6,m7⟩:=HC0.o w3 HT3.o.2.1
 have HN:=I (HGG.o (l++O) w3 HT3.o.2.1 HT3.o.1 (by simp;omega))
 clear hto3 HP HT2 HK2 HGG HS
 go_wp2_with fail
 refine HN.o.mono ?_
 rintro e w4 ⟨rfl,hto4⟩
 have HT4:=I (HT3.o.trans hto4)
 have HP2:=I (gn w0.heap.size b _ nm [41] w4 HT4.o.1 (by simp;omega))
 clear hto4 HN HT3 HK3 q2 m0 m1 m2 m3 m4 m5 m6 m7 HC0 HX2
 simp only[List.toArray]at HP2
 go_wp2_with fail
 refine HP2.o.mono ?_
 rintro e w5 ⟨rfl,hto5⟩
 have HT5:Hid (cu w0.heap.size b (l++T) nm w w5):=by
  have:=HT4.o.trans hto5
  show cu _ _ _ _ _ _
  rw[HTT.o]
  simpa using this
 clear hto5 HP2 HT4
 go_wp2
 go_end0
 exact⟨rfl,HT5.o⟩
end Go.Proofs.YtklbbbldalmnbaaGreatDoor.TR
namespace Go.Proofs.YtklbbbldalmnbaaGreatDoor.TR
open Go.RowKit
open Go.Lib (decDigits decDigits_length)
def rS(l:List Int):Prop:=∀a∈l,1<=a/\a<=20
theorem x8{S:RL}(h:bj S=0):S.length<=400/\∀r∈S,er r:=by
 unfold bj at h
 have hr:du S=0:=by
  by_cases hh:du S=0
  ·exact hh
  ·rw[if_neg hh]at h;exact absurd h hh
 unfold du at hr
 by_cases h4:400<S.length
 ·rw[if_pos h4]at hr;exact absurd hr (by decide)
 ·rw [if_neg h4]at hr
  by_cases ha:S.all okB=true
  ·exact⟨by omega,fun r hr'=>(gR r).1 (List.all_eq_true.1 ha r hr')⟩
  ·rw[if_neg ha]at hr;exact absurd hr (by decide)
theorem GH{t:Tr}(h:mR t=0):(0<=t.least/\t.least<=100)/\(t.an= -1\/(0<=t.an/\t.an<=100))/\1<=t.bB/\t.bB<=3:=by
 unfold mR at h
 split at h
 ·exact absurd h (by decide)
 ·split at h
  ·exact absurd h (by decide)
  ·split at h
   ·exact absurd h (by decide)
   ·omega
theorem Fk{t:Tr}{s s':St}(h:cW t s=.ok s')(hn:rS s'.2):xZ t/\rS s.2:=by
 unfold cW at h
 split at h
 ·cases h
 ·rename_i hk
  split at h
  ·cases h
  ·rename_i hf
   have hkb:cK t=true:=by
    have:(cK t&&bO t)=true:=by simpa using hf
    exact(Bool.and_eq_true_iff.1 this).1
   split at h
   ·cases h
   ·rename_i hs
    have hse:=x8 (by omega:bj t.set=0)
    have hkk:1<=t.kind/\t.kind<=18:=by omega
    split at h
    ·rename_i h12
     split at h
     ·rename_i hrep
      cases h
      exact⟨⟨hkk,hkb,hse,fun _=>GH hrep,fun e=>by omega⟩,hn⟩
     ·cases h
    ·rename_i h12
     split at h
     ·rename_i h11
      split at h
      ·cases h
       exact⟨⟨hkk,hkb,hse,fun e=>absurd e h12,fun e=>by omega⟩,hn⟩
      ·cases h
     ·split at h
      ·rename_i h18
       cases h
       exact⟨⟨hkk,hkb,hse,fun e=>absurd e h12,fun _=>hn t.num (by simp)⟩,fun a ha=>hn a (by simp[ha])⟩
      ·rename_i h18
       cases h
       exact⟨⟨hkk,hkb,hse,fun e=>absurd e h12,fun e=>absurd e h18⟩,hn⟩
mutual
theorem zK:∀(t:Tr) (s s':St),cP t s=.ok s'->rS s'.2->uF t/\rS s.2
 | .mk k a b c d e f kids,s,s',h,hn=>by
  rw[cP]at h
  split at h
  ·rename_i s1 h1
   obtain⟨hk,hn1⟩:=zI kids s1 s' h hn
   obtain⟨ho,hn2⟩:=Fk h1 hn1
   exact⟨.mk k a b c d e f kids ho hk,hn2⟩
  ·cases h
theorem zI:∀(ts:List Tr) (s s':St),cG ts s=.ok s'->rS s'.2->(∀j (hj:j<ts.length),uF ts[j])/\rS s.2
 |[],s,s',h,hn=>by
  rw[cG]at h
  cases h
  exact⟨fun j hj=>by simp at hj,hn⟩
 |t::ts,s,s',h,hn=>by
  rw[cG]at h
  split at h
  ·rename_i s1 h1
   obtain⟨hk,hn1⟩:=zI ts s1 s' h hn
   obtain⟨ho,hn2⟩:=zK t s s1 h1 hn1
   refine⟨fun j hj=>?_,hn2⟩
   cases j with
   |zero=>exact ho
   |succ j=>exact hk j (by simpa using hj)
  ·cases h
end
theorem vJ{g:Int}:∀{l:List Int},bX g l=0->∀a∈l,1<=a/\a<=g
 |[],_,a,ha=>by simp at ha
 |b::l,h,a,ha=>by
  unfold bX at h
  have hb:fG g b=0:=by
   by_cases hh:fG g b=0
   ·exact hh
   ·first
    |(rw[if_neg hh]at h;exact absurd h (by first|exact hh|decide))
    |(simp[hh]at h)
  have hl:bX g l=0:=by simpa[hb]using h
  rcases List.mem_cons.1 ha with rfl|ha
  ·unfold fG at hb
   by_cases hh:1<=a/\a<=g
   ·exact hh
   ·rw[if_neg hh]at hb;exact absurd hb (by decide)
  ·exact vJ hl a ha
theorem Fg{t:Tr}{g:Int}(h:dD t g=0):uF t:=by
 unfold dD at h
 split at h
 ·rename_i z hz
  exact absurd h (jk t _ z hz)
 ·rename_i s hs
  by_cases hc:cT s g=0
  ·rw [if_neg (by omega)]at h
   have h20:s.1<=20:=by
    unfold cT at hc
    by_cases hh:20<s.1
    ·rw[if_pos hh]at hc;exact absurd hc (by decide)
    ·omega
   exact(zK t (0,[]) s hs (fun a ha=>by have:=vJ h a ha;omega)).1
  ·rw[if_pos hc]at h;exact absurd h hc
theorem Dm(f:Nat->List UInt8){j n:Nat}(h:j<n)(hf:f j≠[]):fK f n≠[]:=by
 intro e
 have:=tH f (j:=j+1) (n:=n) (by omega)
 rw[e,fK,List.length_append,List.length_nil]at this
 have h2:(f j).length≠0:=by simpa using hf
 omega
theorem Fl{b:Bool}{l:List UInt8}(h:l≠[]):eR b l≠[]:=by cases b<;>simp[eR,h]
theorem uF.two{t:Tr}(h:uF t)(hk:t.kind=9\/t.kind=10):2<=t.kids.length:=by
 have h1:=h.open.1.kids
 unfold cK at h1
 rcases hk with e|e
 ·rw[if_pos e]at h1;simp at h1;omega
 ·rw[if_neg (by omega),if_pos e]at h1;simp at h1;omega
theorem Ic(N:de){t:Tr}(h:uF t):jX N t≠[]:=by
 induction h with
 |mk k num least an bB fold set kids hn hk ih=>
  have hot:uF (.mk k num least an bB fold set kids):=.mk k num least an bB fold set kids hn hk
  rw[jX]
  unfold jg
  split
  ·unfold fg;split
   ·decide
   ·simp
  ·split
   ·rename_i h2 h9
    have:=hot.two (.inl h9)
    simp only[Tr.kids]at this
    rw[gX]
    exact Dm _ (j:=0) (by omega) (by rw[lx N kids 0 (by omega)];exact Fl (ih 0 (by omega)))
   ·split
    ·rename_i h2 h9 h10
     have:=hot.two (.inr h10)
     simp only[Tr.kids]at this
     rw[gX]
     exact Dm _ (j:=1) (by omega) (by rw[kO N kids 1 (by omega)];simp)
    ·split
     ·unfold cD;simp
     ·split
      ·unfold CO;split<;>simp
      ·split
       ·simp
       ·unfold lI
        repeat' split
        all_goals (intro e;cases e)
theorem jW{p:Int}(h:p<=1114111):(hexDigits p.toNat).length<=1114112:=by
 have:=rI p.toNat
 omega
theorem gG{p:Int}(h:p<=100):(decDigits p.toNat).length<=101:=by
 rw[decDigits_length]
 have:=GA p.toNat
 omega
theorem Ad{f:Nat->List UInt8}{c:Nat}:∀{n:Nat},(∀j,j<n->(f j).length<=c)->(fK f n).length<=c*n
 |0,_=>by simp[fK]
 |n+1,h=>by
  rw[fK,List.length_append]
  have h1:=Ad (n:=n) (fun j hj=>h j (by omega))
  have h2:=h n (by omega)
  rw[Nat.mul_succ]
  omega
theorem D8{S:RL}(h4:S.length<=400)(hok:∀r∈S,er r):(fg S).length<=1000000000:=by
 unfold fg
 split
 ·simp[oz]
 ·have:=Ad (f:=fN S) (c:=2228300) (n:=S.length) (fun j hj=>by
   rw[pE S j hj]
   obtain⟨o1,o2,o3⟩:=hok _ (List.getElem_mem hj)
   have h1:=jW (p:=S[j].1) (by omega)
   have h2:=jW (p:=S[j].2) o3
   simp only[rm,List.length_append,List.length_cons,List.length_nil]
   omega)
  simp only[List.length_append,List.length_cons,List.length_nil]
  have h3:2228300*S.length<=2228300*400:=Nat.mul_le_mul_left _ h4
  omega
theorem CE{N:de}(hz:∀i,i<N.length->(lR N i).size<=1048576)(num:Int):(gA N num).length<=1048580:=by
 rcases jS.gA N num with⟨k,hk,_,e⟩|⟨_,e⟩
 ·rw [e]
  have:=hz k hk
  have h2:(lR N k).data.toList.length=(lR N k).size:=Array.length_toList
  simp only[List.length_append,List.length_cons,List.length_nil]
  omega
 ·rw[e];simp
theorem Cl{N:de}(hz:∀i,i<N.length->(lR N i).size<=1048576)(k num:Int):(aR N k num).length<=1048580:=by
 have:=CE hz num
 unfold aR
 repeat' split
 all_goals first|omega|(simp)
theorem B4{ts:List Tr}{j:Nat}(hj:j<ts.length):fj (ts.take (j+1))=fj (ts.take j)+fL ts[j]:=by
 induction ts generalizing j with
 |nil=>simp at hj
 |cons t ts ih=>
  cases j with
  |zero=>simp[fj]
  |succ j=>
   have:=ih (j:=j) (by simpa using hj)
   rw[List.take_succ_cons,List.take_succ_cons,fj,fj,this]
   simp
   omega
theorem py{f:Nat->List UInt8}{ts:List Tr}{K:Nat}(h:∀j (hj:j<ts.length),(f j).length<=K*fL ts[j]):∀j,j<=ts.length->(fK f j).length<=K*fj (ts.take j)
 |0,_=>by simp[fK]
 |j+1,hj=>by
  rw[fK,List.length_append,B4 (by omega),Nat.mul_add]
  have h1:=py h j (by omega)
  have h2:=h j (by omega)
  omega
theorem sy(b:Bool)(l:List UInt8):(eR b l).length<=l.length+4:=by cases b<;>simp[eR]
theorem Ed(v:Int):(iJ v).data.toList.length<=1:=by
 unfold iJ
 repeat' split
 all_goals simp
theorem A4(v:Int):(lI v).data.toList.length<=4:=by
 unfold lI
 repeat' split
 all_goals simp
theorem Hg(N:de)(hz:∀i,i<N.length->(lR N i).size<=1048576){t:Tr}(h:uF t):(jX N t).length+4<=10000000000*fL t:=by
 induction h with
 |mk k num least an bB fold set kids hn hk ih=>
  have hot:uF (.mk k num least an bB fold set kids):=.mk k num least an bB fold set kids hn hk
  have hsz:fL (.mk k num least an bB fold set kids)=1+fj kids:=by rw[fL]
  have hone:∀(h1:kids.length=1),fj kids=fL kids[0]:=fun h1=>by
   match kids,h1 with
   |[t],_=>simp[fj]
  rw[jX,hsz,Nat.mul_add]
  unfold jg
  split
  ·have :=D8 hn.set.1 hn.set.2
   simp only[Tr.set]at this
   omega
  ·split
   ·have:=py (f:=partAt (kids.map Tr.kind) (rD N kids)) (ts:=kids) (K:=10000000000) (fun j hj=>by
     rw[lx N kids j hj]
     have h1:=sy (decide (kids[j].kind=10)) (jX N kids[j])
     have h2:=ih j hj
     omega) kids.length (U _)
    rw[List.take_length]at this
    rw[gX]
    omega
   ·split
    ·have:=py (f:=mK (rD N kids)) (ts:=kids) (K:=10000000000) (fun j hj=>by
      rw[kO N kids j hj]
      have h2:=ih j hj
      rw[List.length_append]
      split<;>simp<;>omega) kids.length (U _)
     rw[List.take_length]at this
     rw[gX]
     omega
    ·split
     ·rename_i h12
      have h1:kids.length=1:=hot.one (by show 11<=k/\k<=17;omega)
      obtain⟨r1,r2,r3⟩:=hn.rep h12
      simp only[Tr.least,Tr.an,Tr.bB]at r1 r2 r3
      rw[mi N kids 0 (by omega),hone h1]
      have h2:=ih 0 (by omega)
      have h3:=sy (fu ((kids.map Tr.kind).getD 0 0)) (jX N kids[0])
      have h4:=gG (p:=least) (by omega)
      have h5:(gC an).length<=101:=by
       unfold gC
       split
       ·exact gG (by omega)
       ·simp
      have h6:=Ed bB
      simp only[cD,List.length_append,List.length_cons,List.length_nil]
      omega
     ·split
      ·rename_i h18
       have:=hn.ag h18
       simp only[Tr.num]at this
       have h4:=gG (p:=num) (by omega)
       unfold CO
       split<;>simp only[List.length_append,List.length_cons,List.length_nil]<;>omega
      ·split
       ·rename_i ho
        have h1:kids.length=1:=hot.one (by show 11<=k/\k<=17;omega)
        rw[mi N kids 0 (by omega),hone h1]
        have h2:=ih 0 (by omega)
        have h3:=Cl hz k num
        simp only[List.length_append,List.length_cons,List.length_nil]
        omega
       ·have :=A4 k
        omega
theorem oT.Js{t:Tr}{g:Int}{N:de}(h:oT t g N 0):fL t<=1000/\uF t/\nT N N.length:=by
 rcases h with⟨_,h⟩|⟨h1,h2⟩
 ·exact absurd h (by decide)
 ·refine ⟨tm h1,?_⟩
  rcases h2 with⟨a,b⟩|⟨_,_,b⟩|⟨a,_,c⟩
  ·exact absurd b.symm a
  ·exact absurd b (by decide)
  ·refine ⟨Fg a,?_⟩
   rcases c with⟨b,_⟩|⟨b,_⟩|⟨b,_⟩|⟨_,_,hn,_⟩
   ·exact absurd b (by decide)
   ·exact absurd b (by decide)
   ·exact absurd b (by decide)
   ·exact hn
theorem oT.short{t:Tr}{g:Int}{N:de}(h:oT t g N 0)(hz:∀i,i<N.length->(lR N i).size<=1048576):(jX N t).length<=10000000000000:=by
 obtain⟨h1,h2,_⟩:=h.Js
 have:=Hg N hz h2
 omega
end Go.Proofs.YtklbbbldalmnbaaGreatDoor.TR
namespace Go.Proofs.YtklbbbldalmnbaaGreatDoor.TR
open Go.RowKit
open Go.Lib (byteCells byteCells_append byteCells_length decDigits)
theorem add_zero'(x:Addr):x.add 0=x:=by cases x;rename_i a b c;cases c<;>rfl
theorem AE{w0:World}{n:NV}{t:Tr}(h:aV w0 n t)(hT:iP w0)(b:Nat)(na:Option Addr)(nl nc:Nat)(N:de)(hN:bW w0 (.slice na nl nc) N)(htw:nT N N.length)(hnz:∀i,i<N.length->(lR N i).size<=1048576):uF t->pH w0 b (.slice na nl nc) n (jX N t):=by
 induction h with
 |mk n set kids vs hs hk hkids ih=>
  intro hok l w hw0 h hlen
  obtain⟨hno,hkok⟩:=hok.open
  have hG:∀j (hj:j<kids.length),pH w0 b (.slice na nl nc) (vs j) (jX N kids[j]):=fun j hj=>ih j hj (hkok j hj)
  have hkd:∀j (hj:j<kids.length),(vs j).kind=kids[j].kind:=fun j hj=>((hkids j hj).open.1).symm
  have hkind:=hno.kind
  simp only[Tr.kind]at hkind
  have hsh:jX N (.mk n.kind n.num n.least n.an n.bB n.fold set kids)=jg N n.kind n.num n.least n.an n.bB n.fold set (kids.map Tr.kind) (rD N kids):=by rw[jX]
  rw[hsh]at hlen |-
  unfold jg at hlen |-
  by_cases h2:n.kind=2
  ·rw [if_pos h2]at hlen |-
   exact CF w0 b _ n _ l w h (fun W hW=>Hb w0 b l _ n.sa n.sl n.sc set W (h.ar hW) (hw0.trans (hW.mono hw0.size)) hT hs hno.set.2 hno.set.1 hlen) h2
  rw[if_neg h2]at hlen |-
  by_cases h9:n.kind=9
  ·rw [if_pos h9,gX]at hlen |-
   exact BO w0 b _ n _ l w h (fun W hW=>Gq w0 b _ N kids vs n.ka n.kl n.kc hk hkd hG l W (hw0.trans (hW.mono hw0.size)) (h.ar hW) hlen) h9
  rw[if_neg h9]at hlen |-
  by_cases h10:n.kind=10
  ·rw [if_pos h10,gX]at hlen |-
   exact tu w0 b _ n _ l w h (fun W hW=>lP w0 b _ N kids vs n.ka n.kl n.kc hk hG l W (hw0.trans (hW.mono hw0.size)) (h.ar hW) hlen) h10
  rw[if_neg h10]at hlen |-
  have one:11<=n.kind/\n.kind<=17->∃x,n.ka=some x/\n.kl=1/\aL w0 x (vs 0)/\∃h0:0<kids.length,pH w0 b (.slice na nl nc) (vs 0) (jX N kids[0]):=fun hh=>by
   have h1:kids.length=1:=hok.one hh
   rcases hk with⟨_,_,_,h0⟩|⟨x,hx,hl,_,hc⟩
   ·omega
   ·refine ⟨x,hx,by omega,?_,by omega,hG 0 (by omega)⟩
    have:=hc 0 (by omega)
    rw[Nat.zero_mul,add_zero']at this
    exact this
  by_cases h12:n.kind=12
  ·rw [if_pos h12]at hlen |-
   obtain⟨x,hx,hl,hc,h0,hg⟩:=one (by omega)
   rw[uD _ _ h0,mi _ _ _ h0, <-hkd 0 h0]at hlen |-
   obtain⟨r1,r2,r3⟩:=hno.rep h12
   exact uj w0 b _ n _ l w h (fun W hW=>fa w0 b _ n (vs 0) x _ hx hl hc hg l W (hw0.trans (hW.mono hw0.size)) hT (h.ar hW) r1 r2 hlen) h12
  rw[if_neg h12]at hlen |-
  by_cases h18:n.kind=18
  ·rw [if_pos h18]at hlen |-
   exact xh w0 b _ n _ l w h (fun W hW=>eH w0 b _ n l W (hw0.trans (hW.mono hw0.size)) hT (h.ar hW) (hno.ag h18) hlen) h18
  rw[if_neg h18]at hlen |-
  by_cases hop:n.kind=11\/(13<=n.kind/\n.kind<=17)
  ·rw [if_pos hop]at hlen |-
   obtain⟨x,hx,hl,hc,h0,hg⟩:=one (by omega)
   rw[mi _ _ _ h0]at hlen |-
   have hC:∀W,Below w0.heap.size w W->aL W x (vs 0):=fun W hW=>hc.below (hw0.trans hW)
   have hO:∀W,Below w.heap.size w W->Calls prog 44 #[.pointer (some ⟨b,0,none⟩),cz n] W fun e w'=>e=.returned (.string ⟨(aR N n.kind n.num).toArray⟩)/\Below W.heap.size W w':=fun W hW=>wK w0 b l na nl nc N n W (h.ar hW) (hw0.trans (hW.mono hw0.size)) hN htw hnz hop
   have hGG:∀l W,Below w0.heap.size w W->Wr w0.heap.size b l (.slice na nl nc) W->l.length+(jX N kids[0]).length<=140737488355328->Calls prog 25 #[.pointer (some ⟨b,0,none⟩),cz (vs 0)] W fun e w'=>e=.returned (.tuple #[])/\cu w0.heap.size b (l++jX N kids[0]) (.slice na nl nc) W w':=fun l W hW=>hg l W (hw0.trans hW)
   rcases(by omega:n.kind=11\/n.kind=13\/n.kind=14\/n.kind=15\/n.kind=16\/n.kind=17)with e|e|e|e|e|e
   ·exact tv w0 b _ n _ l w h (vs 0) x _ _ rfl hx hl hC hO hGG hlen e
   ·exact tp w0 b _ n _ l w h (vs 0) x _ _ rfl hx hl hC hO hGG hlen e
   ·exact ue w0 b _ n _ l w h (vs 0) x _ _ rfl hx hl hC hO hGG hlen e
   ·exact tJ w0 b _ n _ l w h (vs 0) x _ _ rfl hx hl hC hO hGG hlen e
   ·exact uy w0 b _ n _ l w h (vs 0) x _ _ rfl hx hl hC hO hGG hlen e
   ·exact tT w0 b _ n _ l w h (vs 0) x _ _ rfl hx hl hC hO hGG hlen e
  ·rw [if_neg hop]at hlen |-
   have hS:∀k,n.kind=k->∀W,Calls prog 45 #[.int .i64 k] W fun e w'=>e=.returned (.string ⟨(lI n.kind).data.toList.toArray⟩)/\w'=W:=fun k e W=>by rw[e];exact Ew k W
   rcases(by omega:n.kind=1\/n.kind=3\/n.kind=4\/n.kind=5\/n.kind=6\/n.kind=7\/n.kind=8)with e|e|e|e|e|e|e
   ·exact vj w0 b _ n _ l w h (hS _ e) hlen e
   ·exact wH w0 b _ n _ l w h (hS _ e) hlen e
   ·exact wN w0 b _ n _ l w h (hS _ e) hlen e
   ·exact vn w0 b _ n _ l w h (hS _ e) hlen e
   ·exact vO w0 b _ n _ l w h (hS _ e) hlen e
   ·exact uT w0 b _ n _ l w h (hS _ e) hlen e
   ·exact vM w0 b _ n _ l w h (hS _ e) hlen e
def Jx(N:de)(t:Tr)(z:Int):ByteArray:=if z=0 then⟨(jX N t).toArray⟩else⟨#[]⟩
def Fa(t:Tr)(g:Int)(N:de)(w:World)(e:Ending)(w':World):Prop:=∃z,oT t g N z/\e=.returned (.tuple #[.string (Jx N t z),.int .i64 z])/\Below w.heap.size w w'
theorem Wr.full{B b:Nat}{l:List UInt8}{nm:Value}{w:World}(h:Wr B b l nm w):∃p,WB B b p (byteCells l) nm w:=by
 rcases h with h|h
 ·exact⟨_,h⟩
 ·exact⟨_,h⟩
theorem EL(n:NV)(t:Tr)(g:Int)(na:Option Addr)(nl nc:Nat)(N:de)(w:World)(h:aV w n t)(hT:iP w)(hNm:bW w (.slice na nl nc) N)(hnz:oT t g N 0->∀i,i<N.length->(lR N i).size<=1048576):Calls prog 17 #[mT n g na nl nc] w fun e w'=>Fa t g N w e w':=by
 obtain⟨w1,hw1⟩:∃w1,w1=w.alloc (fJ n g na nl nc):=⟨_,rfl⟩
 have hX1:w1.heap[w.heap.size]? =some (fJ n g na nl nc):=by rw[hw1];exact aj _ _
 have hb1:Below w.heap.size w w1:=by rw[hw1];exact(J _ w).alloc (U _) _
 have HC:=I (rF n t g na nl nc N w1 (h.ar hb1) (hNm.below hb1))
 have HB1:=I hb1
 have HX1:=I hX1
 have HT0:=I hT
 have HNC:=I h
 have HNm:=I hNm
 have HNz:=I hnz
 obtain⟨⟨d0,d1,d2,d3,d4,d5,d6,d7⟩,d8,d9⟩:=et hX1
 simp only[fJ]at hw1
 simp only[mT]at HC |-
 clear h hT hNm hnz hb1 hX1
 go_enter func17,ntmps17
 go_upto_region 1 with fail
 rw[<- hw1]
 clear hw1
 go_wp2_with fail
 refine HC.o.mono ?_
 rintro e w2 ⟨z,hz,rfl,hb2⟩
 have HZ:=I hz
 have HB2:=I (HB1.o.trans (hb2.mono HB1.o.size))
 have HX2:=I (show w2.heap[w.heap.size]? =some (fJ n g na nl nc) by rw[hb2.block _ (lt_of_block HX1.o)];exact HX1.o)
 clear hz hb2 HC HB1 HX1 d0 d1 d2 d3 d4 d5 d6 d7 d8 d9
 obtain⟨⟨d0,d1,d2,d3,d4,d5,d6,d7⟩,d8,d9⟩:=et HX2.o
 by_cases hz0:z=0
 ·subst hz0
  obtain⟨hsz,hok,htw⟩:=HZ.o.Js
  have hsh:=HZ.o.short (HNz.o HZ.o)
  obtain⟨T,hTT⟩:∃T,T=jX N t:=⟨_,rfl⟩
  have hTn:T≠[]:=by rw[hTT];exact Ic N hok
  obtain⟨w3,hw3⟩:∃w3,w3=w2.alloc (.cells #[.pointer none,.slice none 0 0,.slice na nl nc] 63):=⟨_,rfl⟩
  have hK3:w3.heap[w2.heap.size]? =some (.cells #[.pointer none,.slice none 0 0,.slice na nl nc] 63):=by rw[hw3];exact aj _ _
  have hb3:Below w2.heap.size w2 w3:=by rw[hw3];exact(J _ w2).alloc (U _) _
  have hW3:Wr w2.heap.size w2.heap.size [] (.slice na nl nc) w3:=.inl ⟨U _,_,hK3,World.ownsRow_nil _ _ _ _,by simp[Value.ownBlock]⟩
  have HN:=I (AE (HNC.o.ar HB2.o) (HT0.o.ar HB2.o) w2.heap.size na nl nc N (HNm.o.below HB2.o) htw (HNz.o HZ.o) hok [] w3 hb3 hW3 (by simp;omega))
  rw[List.nil_append, <-hTT]at HN
  have HX3:=I (show w3.heap[w.heap.size]? =some (fJ n g na nl nc) by rw[hb3.block _ (lt_of_block HX2.o)];exact HX2.o)
  have HB3:=I hb3
  have HF:Hid (∀w',Below w.heap.size w w'->Fa t g N w (.returned (.tuple #[.string ⟨T.toArray⟩,.int .i64 0])) w'):=fun w' hh=>⟨0,HZ.o,by rw[hTT];rfl,hh⟩
  obtain⟨b,hb⟩:∃b,b=w2.heap.size:=⟨_,rfl⟩
  rw[<- hb]at HN HB3
  have hwb:w.heap.size<=b:=by rw[hb];exact HB2.o.size
  clear hb3 hW3 hK3 d0 d1 d2 d3 d4 d5 d6 d7 d8 hsz hok htw hsh hTT HZ HNC HNm HNz HT0
  go_upto_region 5 with fail
  rw[<- hw3, <-hb]
  clear hw3 hb
  obtain⟨⟨d0,d1,d2,d3,d4,d5,d6,d7⟩,d8,d9⟩:=et HX3.o
  simp only[cz]at HN
  go_wp2_with fail
  refine HN.o.mono ?_
  rintro e w4 ⟨rfl,hto4⟩
  obtain⟨p,hfull⟩:=hto4.1.full
  have HS:=I (xe b b p _ T w4 hfull hTn)
  have HB4:=I (show Below w.heap.size w w4 from HB2.o.trans ((HB3.o.trans hto4.2.1).mono hwb))
  obtain⟨R,hR⟩:∃R:ByteArray,R=⟨T.toArray⟩:=⟨_,rfl⟩
  rw[<- hR]at HS HF
  clear hto4 hfull HN d0 d1 d2 d3 d4 d5 d6 d7 d8 d9 hTn hR
  go_wp2_with fail
  refine HS.o.mono ?_
  rintro e w5 ⟨rfl,hb5⟩
  have HB5:=I (show Below w.heap.size w w5 from HB4.o.trans (hb5.mono hwb))
  clear hb5 HS
  go_wp2
  go_ret2
  exact HF.o _ HB5.o
 ·have HF:Hid (∀w',Below w.heap.size w w'->Fa t g N w (.returned (.tuple #[.string ⟨#[]⟩,.int .i64 z])) w'):=fun w' hh=>⟨z,HZ.o,by unfold Jx;rw[if_neg hz0],hh⟩
  have hzb:(z==0)=false:=by simpa using hz0
  clear HZ HNC HNm HNz HT0 d0 d1 d2 d3 d4 d5 d6 d7 d8 d9
  go_wp2
  go_ret2
  exact HF.o _ HB2.o
end Go.Proofs.YtklbbbldalmnbaaGreatDoor.TR
