import Derived.Test.YtfnndcbjklppeaaGreatDoorVL2
import Derived.Test.YtfnndcbjklppeaaGreatDoorUY2
import Derived.Test.YtfnndcbjklppeaaGreatDoorVA2
set_option maxHeartbeats 8000000
set_option maxRecDepth 100000
set_option linter.unusedVariables false
open Go.Proofs.Tryz
namespace Go.Proofs.YtfnndcbjklppeaaGreatDoor
open Go.RowKit
theorem cap_any(a b:Int)(w:World):Calls prog 48 #[.int .i64 a,.int .i64 b] w fun e w'=>e=.returned (.tuple #[.int .i64 (leastF a),.int .i64 (mostF b)])∧w'=w:=by
 by_cases h1:1000000<b
 ·have hm:Hid (mostF b= -1):=by show _=_;unfold mostF;rw[if_pos h1]
  by_cases h2:a≤1000000
  ·have hl:Hid (leastF a=a):=by show _=_;unfold leastF;split<;>omega
   go_enter func48,ntmps48
   go_wp2
   go_ret2
   exact⟨by rw[hm.out,hl.out];rfl,rfl⟩
  ·have hl:Hid (leastF a=1000000):=by show _=_;unfold leastF;split<;>omega
   go_enter func48,ntmps48
   go_wp2
   go_ret2
   exact⟨by rw[hm.out,hl.out];rfl,rfl⟩
 ·have hm:Hid (mostF b=b):=by show _=_;unfold mostF;rw[if_neg h1]
  by_cases h2:a≤1000000
  ·have hl:Hid (leastF a=a):=by show _=_;unfold leastF;split<;>omega
   go_enter func48,ntmps48
   go_wp2
   go_ret2
   exact⟨by rw[hm.out,hl.out];rfl,rfl⟩
  ·have hl:Hid (leastF a=1000000):=by show _=_;unfold leastF;split<;>omega
   go_enter func48,ntmps48
   go_wp2
   go_ret2
   exact⟨by rw[hm.out,hl.out];rfl,rfl⟩
abbrev wdV(f:FT):Value:=.tuple #[.int .i64 f.least,.int .i64 f.most]
theorem add_zero_ok{f:FT}(h:okF f):addF ⟨0,0,true⟩ f=f:=by
 obtain⟨l,m,p⟩:=f
 unfold okF at h
 simp only at h
 unfold addF leastF addM mostF
 simp only[Int.zero_add]
 have e1:(if l<1000000 then l else 1000000)=l:=by split<;>omega
 have e2:(if (0:Int)<0∨m<0 then -1 else if 1000000<m then -1 else m)=m:=by
  split
  ·omega
  ·split<;>omega
 rw[e1,e2];simp
theorem fold_zero{ks:List Tr}(h:∀j (hj:j<ks.length),okF (factT ks[j]))(hl:0<ks.length):(factL ks).foldl addF ⟨0,0,true⟩=foldF addF (factL ks):=by
 cases ks with
 |nil=>cases hl
 |cons t ts=>
  rw[factL]
  show(factL ts).foldl addF (addF ⟨0,0,true⟩ (factT t))=(factL ts).foldl addF (factT t)
  rw[add_zero_ok (show okF (factT t)from h 0 (by simp))]
theorem factL_drop{ks:List Tr}{j:Nat}(hj:j<ks.length):(factL ks).drop j=factT ks[j]::(factL ks).drop (j+1):=by
 have h1:j<(factL ks).length:=by rw[factL_len];exact hj
 have h2:=factL_get ks j hj
 rw[List.getElem?_eq_getElem h1]at h2
 rw[List.drop_eq_getElem_cons h1,Option.some.inj h2]
theorem wide_row{w0:World}{n:NV}{ks:List Tr}{vs:Nat→NV}(hk9:n.kind=9)(hk:KidsC w0 n.ka n.kl n.kc ks.length vs)
  (ih:∀j (hj:j<ks.length) (W:World),Below w0.heap.size w0 W→Calls prog 25 #[nvV (vs j)] W fun e w'=>e=.returned (wdV (factT ks[j]))∧Below W.heap.size W w')
  (hok:∀j (hj:j<ks.length),okF (factT ks[j])) (hl:2≤ks.length) (w:World) (hw0:Below w0.heap.size w0 w):
  Calls prog 25 #[nvV n] w fun e w'=>e=.returned (wdV (foldF addF (factL ks)))∧Below w.heap.size w w':=by
 have hb1:Below w.heap.size w (w.alloc (nvO n)):=allocB w _
 obtain⟨w1,hw1⟩:=named (w.alloc (nvO n))
 have hX1:w1.heap[w.heap.size]? =some (nvO n):=by rw[hw1];exact at_new _ _
 rw[← hw1]at hb1
 have HB1:=hide hb1
 have HX1:=hide hX1
 have HIH:=hide ih
 have HOK:=hide hok
 have HW0:=hide hw0
 have HKL:=hide hk.len
 have HK:=hide hk
 have HZ:=hide (fold_zero hok (by omega))
 obtain⟨d0,d1,d2,d3,d4,d5,d6,d7⟩:=nv_cells hX1
 have b2:(n.kind==2)=false:=by rw[hk9];rfl
 have b11:(n.kind==11)=false:=by rw[hk9];rfl
 have b13:(n.kind==13)=false:=by rw[hk9];rfl
 have b18:(n.kind==18)=false:=by rw[hk9];rfl
 have b9:(n.kind==9)=true:=by rw[hk9];rfl
 simp only[nvO]at hw1
 have hkc:ks.length≤9223372036854775806∨True:=.inr trivial
 obtain⟨G,hG⟩:=named (foldF addF (factL ks))
 rw[← hG]at HZ ⊢
 obtain⟨m,hm⟩:=named ks.length
 have HM:=hide hm
 have hmx:m≤9223372036854775807:=by
  rcases hk with⟨_,_,_,h0⟩|⟨x,_,_,h1,_⟩<;>omega
 clear hk ih hok hw0 hb1 hX1 hG hl hkc hm hk9
 go_enter func25,ntmps25
 go_upto_region 1 with fail
 rw[← hw1]
 clear hw1
 go_wp2
 go_loopw [5,6,7] (fun a b c wr=>∃(j:Nat) (f:FT),j≤m∧c=.int .i64 j∧a=.int .i64 f.least∧b=.int .i64 f.most∧okF f∧G=((factL ks).drop j).foldl addF f∧wr.heap[w.heap.size]? =some (nvO n)∧Below w.heap.size w wr) (fun _ _ c _=>m - (intOf c).toNat)
 case atStart=>exact⟨0,⟨0,0,true⟩,Nat.zero_le _,rfl,rfl,rfl,by unfold okF;simp,by rw[← HZ.out];rfl,HX1.out,HB1.out⟩
 case round=>
  obtain⟨j,f,hj,rfl,rfl,rfl,hf,hG,hx,hb⟩:=hrel
  obtain⟨w2,hw2⟩:=named wr
  subst hw2
  obtain⟨fl,fm,fp⟩:=f
  have HFK:=hide hf
  unfold okF at hf
  simp only at hf
  obtain⟨f1,f2,f3,f4⟩:=hf
  have HG:=hide hG
  have HX:=hide hx
  have HB:=hide hb
  obtain⟨d0,d1,d2,d3,d4,d5,d6,d7⟩:=nv_cells hx
  clear hG hx hb HX1 HB1
  simp only
  by_cases hlt:j<m
  ·have hjk:j<ks.length:=by have:=HM.out;omega
   rcases HK.out with⟨_,_,_,h0⟩|⟨x,hx,hkk,hmx',hcl⟩
   ·exact absurd h0 (by omega)
   ·have hB0:Below w0.heap.size w0 w2:=HW0.out.andT HB.out
    obtain⟨c0,c1,c2,c3,c4,c5,c6,c7⟩:=(hcl j hjk).below hB0
    have HC:=hide (HIH.out j hjk w2 hB0)
    have hdr:=factL_drop hjk
    have hko:=HOK.out j hjk
    obtain⟨kf,hkf⟩:=named (factT ks[j])
    rw[← hkf]at HC hdr hko
    have HKO:=hide hko
    obtain⟨kl,km,kp⟩:=kf
    unfold okF at hko
    simp only at hko
    obtain⟨g1,g2,g3,g4⟩:=hko
    have HN:Hid (G=((factL ks).drop (j+1)).foldl addF (addF ⟨fl,fm,fp⟩ ⟨kl,km,kp⟩)):=by show _=_;rw[HG.out,hdr];rfl
    have HNO:=hide (addF_ok HFK.out HKO.out)
    have e1:(j:Int)<(n.kl:Int):=by have:=HKL.out;omega
    have e2:(0:Int)≤(j:Int):=by omega
    have e3:IntKind.i64.wrap ((j:Int)+1)=(j:Int)+1:=by rw[IntKind.wrap_i64];omega
    have e4:IntKind.i64.wrap (fl+kl)=fl+kl:=by rw[IntKind.wrap_i64];omega
    have e5:IntKind.i64.wrap (fm+km)=fm+km:=by rw[IntKind.wrap_i64];omega
    rw[hx]at d2
    clear hcl hx hB0 hdr hkf hkk hmx'
    simp only[wdV]at HC
    go_wp2_with fail
    refine HC.out.mono ?_
    rintro e w3 ⟨rfl,hb3⟩
    have HB3:=hide (HB.out.andT hb3)
    have HX3:=hide (show w3.heap[w.heap.size]? =some (nvO n) by rw[hb3.block _ (lt_of_block HX.out)];exact HX.out)
    clear hb3 HC c0 c1 c2 c3 c4 c5 c6 c7 d0 d1 d2 d3 d4 d5 d6 d7
    have key:Hid (addF ⟨fl,fm,fp⟩ ⟨kl,km,kp⟩=⟨leastF (fl+kl),if fm<0∨km<0 then -1 else mostF (fm+km),fp&&kp⟩):=rfl
    by_cases n1:fm<0
    ·have key2:Hid (addF ⟨fl,fm,fp⟩ ⟨kl,km,kp⟩=⟨leastF (fl+kl),mostF (-1),fp&&kp⟩):=by show _=_;rw[key.out,if_pos (.inl n1)];rfl
     go_wp2_with fail
     refine(cap_any _ _ _).mono ?_
     rintro e w4 ⟨rfl,hh⟩
     subst hh
     go_wp2
     go_roundw
     case rel=>exact⟨j+1,addF ⟨fl,fm,fp⟩ ⟨kl,km,kp⟩,by omega,by go_num,by rw[key2.out],by rw[key2.out],HNO.out,HN.out,HX3.out,HB3.out⟩
     case measure=>simp[intOf];omega
    ·by_cases n2:km<0
     ·have key2:Hid (addF ⟨fl,fm,fp⟩ ⟨kl,km,kp⟩=⟨leastF (fl+kl),mostF (-1),fp&&kp⟩):=by show _=_;rw[key.out,if_pos (.inr n2)];rfl
      go_wp2_with fail
      refine(cap_any _ _ _).mono ?_
      rintro e w4 ⟨rfl,hh⟩
      subst hh
      go_wp2
      go_roundw
      case rel=>exact⟨j+1,addF ⟨fl,fm,fp⟩ ⟨kl,km,kp⟩,by omega,by go_num,by rw[key2.out],by rw[key2.out],HNO.out,HN.out,HX3.out,HB3.out⟩
      case measure=>simp[intOf];omega
     ·have key2:Hid (addF ⟨fl,fm,fp⟩ ⟨kl,km,kp⟩=⟨leastF (fl+kl),mostF (fm+km),fp&&kp⟩):=by show _=_;rw[key.out,if_neg (by omega)]
      go_wp2_with fail
      refine(cap_any _ _ _).mono ?_
      rintro e w4 ⟨rfl,hh⟩
      subst hh
      go_wp2
      go_roundw
      case rel=>exact⟨j+1,addF ⟨fl,fm,fp⟩ ⟨kl,km,kp⟩,by omega,by go_num,by rw[key2.out],by rw[key2.out],HNO.out,HN.out,HX3.out,HB3.out⟩
      case measure=>simp[intOf];omega
  ·have e1:¬(j:Int)<(n.kl:Int):=by have:=HKL.out;have:=HM.out;omega
   have hE:Hid (G=⟨fl,fm,fp⟩):=by show _=_;rw[HG.out,List.drop_eq_nil_of_le (by rw[factL_len];have:=HM.out;omega)];rfl
   go_wp2
   go_ret2
   exact⟨by rw[hE.out];rfl,HB.out⟩
theorem wide_either{w0:World}{n:NV}{ks:List Tr}{vs:Nat→NV}(hk10:n.kind=10)(hk:KidsC w0 n.ka n.kl n.kc ks.length vs)
  (ih:∀j (hj:j<ks.length) (W:World),Below w0.heap.size w0 W→Calls prog 25 #[nvV (vs j)] W fun e w'=>e=.returned (wdV (factT ks[j]))∧Below W.heap.size W w')
  (hok:∀j (hj:j<ks.length),okF (factT ks[j])) (hl:2≤ks.length) (w:World) (hw0:Below w0.heap.size w0 w):
  Calls prog 25 #[nvV n] w fun e w'=>e=.returned (wdV (foldF orF (factL ks)))∧Below w.heap.size w w':=by
 have hb1:Below w.heap.size w (w.alloc (nvO n)):=allocB w _
 obtain⟨w1,hw1⟩:=named (w.alloc (nvO n))
 have hX1:w1.heap[w.heap.size]? =some (nvO n):=by rw[hw1];exact at_new _ _
 rw[← hw1]at hb1
 have HB1:=hide hb1
 have HX1:=hide hX1
 have HIH:=hide ih
 have HOK:=hide hok
 have HW0:=hide hw0
 have HKL:=hide hk.len
 have HZ:=hide (fold_head orF ks (by omega))
 obtain⟨d0,d1,d2,d3,d4,d5,d6,d7⟩:=nv_cells hX1
 have b2:(n.kind==2)=false:=by rw[hk10];rfl
 have b11:(n.kind==11)=false:=by rw[hk10];rfl
 have b13:(n.kind==13)=false:=by rw[hk10];rfl
 have b18:(n.kind==18)=false:=by rw[hk10];rfl
 have b9:(n.kind==9)=false:=by rw[hk10];rfl
 have b10:(n.kind==10)=true:=by rw[hk10];rfl
 simp only[nvO]at hw1
 obtain⟨G,hG⟩:=named (foldF orF (factL ks))
 rw[← hG]at HZ ⊢
 obtain⟨m,hm⟩:=named ks.length
 have HM:=hide hm
 have hl2:2≤m:=by omega
 rcases hk with⟨_,_,_,h0⟩|⟨x,hx,hkk,hmx,hcl⟩
 ·exact absurd h0 (by omega)
 ·have hmx1:m≤9223372036854775807:=by omega
  have HCL:=hide hcl
  have hB0:Below w0.heap.size w0 w1:=hw0.andT hb1
  obtain⟨c0,c1,c2,c3,c4,c5,c6,c7⟩:NCells w1 x (vs 0):=by have:=(hcl 0 (by omega)).below hB0;simpa[add_zero']using this
  have HC0:=hide (ih 0 (by omega) w1 hB0)
  have hko:=hok 0 (by omega)
  obtain⟨kf,hkf⟩:=named (factT (ks[0]'(by omega)))
  rw[← hkf]at HC0 HZ hko
  have HKO:=hide hko
  obtain⟨kl,km,kp⟩:=kf
  rw[hx]at d2
  have hn0:(0:Int)<(n.kl:Int):=by have:=HKL.out;omega
  have HXx:=hide hx
  clear ih hok hw0 hb1 hX1 hG hl hm hk10 hcl hkk hmx hB0 hkf hko hx
  simp only[wdV]at HC0
  go_enter func25,ntmps25
  go_upto_region 1 with fail
  rw[← hw1]
  clear hw1
  go_wp2_with fail
  refine HC0.out.mono ?_
  rintro e w2 ⟨rfl,hb2⟩
  have HB2:=hide (HB1.out.andT hb2)
  have HX2:=hide (show w2.heap[w.heap.size]? =some (nvO n) by rw[hb2.block _ (lt_of_block HX1.out)];exact HX1.out)
  clear hb2 HC0 HB1 HX1 c0 c1 c2 c3 c4 c5 c6 c7 d0 d1 d2 d3 d4 d5 d6 d7
  go_wp2
  go_loopw [10,11,12] (fun a b c wr=>∃(j:Nat) (f:FT),j≤m∧1≤j∧c=.int .i64 j∧a=.int .i64 f.least∧b=.int .i64 f.most∧okF f∧G=((factL ks).drop j).foldl orF f∧wr.heap[w.heap.size]? =some (nvO n)∧Below w.heap.size w wr) (fun _ _ c _=>m - (intOf c).toNat)
  case atStart=>exact⟨1,⟨kl,km,kp⟩,by omega,leR _,rfl,rfl,rfl,HKO.out,HZ.out,HX2.out,HB2.out⟩
  case round=>
   obtain⟨j,f,hj,hj1,rfl,rfl,rfl,hf,hG,hx,hb⟩:=hrel
   obtain⟨w3,hw3⟩:=named wr
   subst hw3
   obtain⟨fl,fm,fp⟩:=f
   have HFK:=hide hf
   unfold okF at hf
   simp only at hf
   obtain⟨f1,f2,f3,f4⟩:=hf
   have HG:=hide hG
   have HX:=hide hx
   have HB:=hide hb
   obtain⟨d0,d1,d2,d3,d4,d5,d6,d7⟩:=nv_cells hx
   clear hG hx hb HX2 HB2
   simp only
   by_cases hlt:j<m
   ·have hjk:j<ks.length:=by have:=HM.out;omega
    have hB0:Below w0.heap.size w0 w3:=HW0.out.andT HB.out
    obtain⟨c0,c1,c2,c3,c4,c5,c6,c7⟩:=(HCL.out j hjk).below hB0
    have HC:=hide (HIH.out j hjk w3 hB0)
    have hdr:=factL_drop hjk
    have hko:=HOK.out j hjk
    obtain⟨kf,hkf⟩:=named (factT ks[j])
    rw[← hkf]at HC hdr hko
    have HKO2:=hide hko
    obtain⟨yl,ym,yp⟩:=kf
    unfold okF at hko
    simp only at hko
    obtain⟨g1,g2,g3,g4⟩:=hko
    have HN:Hid (G=((factL ks).drop (j+1)).foldl orF (orF ⟨fl,fm,fp⟩ ⟨yl,ym,yp⟩)):=by show _=_;rw[HG.out,hdr];rfl
    have HNO:=hide (orF_ok HFK.out HKO2.out)
    have e1:(j:Int)<(n.kl:Int):=by have:=HKL.out;omega
    have e2:(0:Int)≤(j:Int):=by omega
    have e3:IntKind.i64.wrap ((j:Int)+1)=(j:Int)+1:=by rw[IntKind.wrap_i64];omega
    rw[HXx.out]at d2
    clear hB0 hdr hkf
    simp only[wdV]at HC
    go_wp2_with fail
    refine HC.out.mono ?_
    rintro e w4 ⟨rfl,hb4⟩
    have HB4:=hide (HB.out.andT hb4)
    have HX4:=hide (show w4.heap[w.heap.size]? =some (nvO n) by rw[hb4.block _ (lt_of_block HX.out)];exact HX.out)
    clear hb4 HC c0 c1 c2 c3 c4 c5 c6 c7 d0 d1 d2 d3 d4 d5 d6 d7
    have key:Hid (orF ⟨fl,fm,fp⟩ ⟨yl,ym,yp⟩=⟨if fl<yl then fl else yl,if fm<0∨ym<0 then -1 else if fm<ym then ym else fm,fp&&yp⟩):=rfl
    by_cases n1:fm<0
    ·by_cases n3:fl≤yl
     ·have key2:Hid ((orF ⟨fl,fm,fp⟩ ⟨yl,ym,yp⟩).least=fl∧(orF ⟨fl,fm,fp⟩ ⟨yl,ym,yp⟩).most= -1):=by show _∧_;rw[key.out];simp only;constructor<;>(repeat' split)<;>omega
      go_wp2
      go_roundw
      case rel=>exact⟨j+1,orF ⟨fl,fm,fp⟩ ⟨yl,ym,yp⟩,by omega,by omega,by go_num,by rw[key2.out.1],by rw[key2.out.2],HNO.out,HN.out,HX4.out,HB4.out⟩
      case measure=>simp[intOf];omega
     ·have key2:Hid ((orF ⟨fl,fm,fp⟩ ⟨yl,ym,yp⟩).least=yl∧(orF ⟨fl,fm,fp⟩ ⟨yl,ym,yp⟩).most= -1):=by show _∧_;rw[key.out];simp only;constructor<;>(repeat' split)<;>omega
      go_wp2
      go_roundw
      case rel=>exact⟨j+1,orF ⟨fl,fm,fp⟩ ⟨yl,ym,yp⟩,by omega,by omega,by go_num,by rw[key2.out.1],by rw[key2.out.2],HNO.out,HN.out,HX4.out,HB4.out⟩
      case measure=>simp[intOf];omega
    ·by_cases n2:ym<0
     ·by_cases n3:fl≤yl
      ·have key2:Hid ((orF ⟨fl,fm,fp⟩ ⟨yl,ym,yp⟩).least=fl∧(orF ⟨fl,fm,fp⟩ ⟨yl,ym,yp⟩).most= -1):=by show _∧_;rw[key.out];simp only;constructor<;>(repeat' split)<;>omega
       go_wp2
       go_roundw
       case rel=>exact⟨j+1,orF ⟨fl,fm,fp⟩ ⟨yl,ym,yp⟩,by omega,by omega,by go_num,by rw[key2.out.1],by rw[key2.out.2],HNO.out,HN.out,HX4.out,HB4.out⟩
       case measure=>simp[intOf];omega
      ·have key2:Hid ((orF ⟨fl,fm,fp⟩ ⟨yl,ym,yp⟩).least=yl∧(orF ⟨fl,fm,fp⟩ ⟨yl,ym,yp⟩).most= -1):=by show _∧_;rw[key.out];simp only;constructor<;>(repeat' split)<;>omega
       go_wp2
       go_roundw
       case rel=>exact⟨j+1,orF ⟨fl,fm,fp⟩ ⟨yl,ym,yp⟩,by omega,by omega,by go_num,by rw[key2.out.1],by rw[key2.out.2],HNO.out,HN.out,HX4.out,HB4.out⟩
       case measure=>simp[intOf];omega
     ·by_cases n3:fl≤yl<;>by_cases n4:fm<ym
      ·have key2:Hid ((orF ⟨fl,fm,fp⟩ ⟨yl,ym,yp⟩).least=fl∧(orF ⟨fl,fm,fp⟩ ⟨yl,ym,yp⟩).most=ym):=by show _∧_;rw[key.out];simp only;constructor<;>(repeat' split)<;>omega
       go_wp2
       go_roundw
       case rel=>exact⟨j+1,orF ⟨fl,fm,fp⟩ ⟨yl,ym,yp⟩,by omega,by omega,by go_num,by rw[key2.out.1],by rw[key2.out.2],HNO.out,HN.out,HX4.out,HB4.out⟩
       case measure=>simp[intOf];omega
      ·have key2:Hid ((orF ⟨fl,fm,fp⟩ ⟨yl,ym,yp⟩).least=fl∧(orF ⟨fl,fm,fp⟩ ⟨yl,ym,yp⟩).most=fm):=by show _∧_;rw[key.out];simp only;constructor<;>(repeat' split)<;>omega
       go_wp2
       go_roundw
       case rel=>exact⟨j+1,orF ⟨fl,fm,fp⟩ ⟨yl,ym,yp⟩,by omega,by omega,by go_num,by rw[key2.out.1],by rw[key2.out.2],HNO.out,HN.out,HX4.out,HB4.out⟩
       case measure=>simp[intOf];omega
      ·have key2:Hid ((orF ⟨fl,fm,fp⟩ ⟨yl,ym,yp⟩).least=yl∧(orF ⟨fl,fm,fp⟩ ⟨yl,ym,yp⟩).most=ym):=by show _∧_;rw[key.out];simp only;constructor<;>(repeat' split)<;>omega
       go_wp2
       go_roundw
       case rel=>exact⟨j+1,orF ⟨fl,fm,fp⟩ ⟨yl,ym,yp⟩,by omega,by omega,by go_num,by rw[key2.out.1],by rw[key2.out.2],HNO.out,HN.out,HX4.out,HB4.out⟩
       case measure=>simp[intOf];omega
      ·have key2:Hid ((orF ⟨fl,fm,fp⟩ ⟨yl,ym,yp⟩).least=yl∧(orF ⟨fl,fm,fp⟩ ⟨yl,ym,yp⟩).most=fm):=by show _∧_;rw[key.out];simp only;constructor<;>(repeat' split)<;>omega
       go_wp2
       go_roundw
       case rel=>exact⟨j+1,orF ⟨fl,fm,fp⟩ ⟨yl,ym,yp⟩,by omega,by omega,by go_num,by rw[key2.out.1],by rw[key2.out.2],HNO.out,HN.out,HX4.out,HB4.out⟩
       case measure=>simp[intOf];omega
   ·have e1:¬(j:Int)<(n.kl:Int):=by have:=HKL.out;have:=HM.out;omega
    have hE:Hid (G=⟨fl,fm,fp⟩):=by show _=_;rw[HG.out,List.drop_eq_nil_of_le (by rw[factL_len];have:=HM.out;omega)];rfl
    go_wp2
    go_ret2
    exact⟨by rw[hE.out];rfl,HB.out⟩
theorem wide_repeat{w0:World}{n m:NV}{x:Addr}(hk12:n.kind=12)(hka:n.ka=some x)(hkl:n.kl=1)(hc0:NCells w0 x m)(F:FT)(ih:∀W:World,Below w0.heap.size w0 W→Calls prog 25 #[nvV m] W fun e w'=>e=.returned (wdV F)∧Below W.heap.size W w')(hok:okF F)(hl:0≤n.least∧n.least≤100)(hm: -1≤n.most∧n.most≤100)(w:World)(hw0:Below w0.heap.size w0 w):
  Calls prog 25 #[nvV n] w fun e w'=>e=.returned (wdV (repF F n.least n.most))∧Below w.heap.size w w':=by
 have hb1:Below w.heap.size w (w.alloc (nvO n)):=allocB w _
 obtain⟨w1,hw1⟩:=named (w.alloc (nvO n))
 have hX1:w1.heap[w.heap.size]? =some (nvO n):=by rw[hw1];exact at_new _ _
 rw[← hw1]at hb1
 have hB0:=hw0.andT hb1
 have HC:=hide (ih w1 hB0)
 obtain⟨c0,c1,c2,c3,c4,c5,c6,c7⟩:=hc0.below hB0
 have HB1:=hide hb1
 have HX1:=hide hX1
 obtain⟨d0,d1,d2,d3,d4,d5,d6,d7⟩:=nv_cells hX1
 rw[hka,hkl]at d2
 have b2:(n.kind==2)=false:=by rw[hk12];rfl
 have b11:(n.kind==11)=false:=by rw[hk12];rfl
 have b13:(n.kind==13)=false:=by rw[hk12];rfl
 have b18:(n.kind==18)=false:=by rw[hk12];rfl
 have b9:(n.kind==9)=false:=by rw[hk12];rfl
 have b10:(n.kind==10)=false:=by rw[hk12];rfl
 have b12:(n.kind==12)=true:=by rw[hk12];rfl
 simp only[nvO]at hw1
 obtain⟨fl,fm,fp⟩:=F
 unfold okF at hok
 simp only at hok
 obtain⟨f1,f2,f3,f4⟩:=hok
 have hms:=mul_small f1 f2 hl.1 hl.2
 have hmw:IntKind.i64.wrap (fl*n.least)=fl*n.least:=by rw[IntKind.wrap_i64];omega
 obtain⟨G,hG⟩:=named (repF ⟨fl,fm,fp⟩ n.least n.most)
 have HG:Hid (G=⟨leastF (fl*n.least),timM fm n.most,fp⟩):=hG
 rw[← hG]
 clear ih hw0 hb1 hX1 hB0 hc0 hG hms hka hkl hk12
 simp only[wdV]at HC
 go_enter func25,ntmps25
 go_upto_region 1 with fail
 rw[← hw1]
 clear hw1
 go_wp2_with fail
 refine HC.out.mono ?_
 rintro e w2 ⟨rfl,hb2⟩
 have HB2:=hide (HB1.out.andT hb2)
 have HX2:=hide (show w2.heap[w.heap.size]? =some (nvO n) by rw[hb2.block _ (lt_of_block HX1.out)];exact HX1.out)
 clear hb2 HC HB1 HX1 c0 c1 c2 c3 c4 c5 c6 c7 d0 d1 d2 d3 d4 d5 d6 d7
 obtain⟨d0,d1,d2,d3,d4,d5,d6,d7⟩:=nv_cells HX2.out
 clear d1 d2 d3 d6 d7
 by_cases z1:fm=0
 ·have hE:Hid (timM fm n.most=mostF 0):=by show _=_;unfold timM mostF;rw[if_pos (Or.inl z1)];rfl
  have y1:(fm==0)=true:=by simpa using z1
  clear z1
  go_wp2_with fail
  refine(cap_any _ _ _).mono ?_
  rintro e w4 ⟨rfl,hh⟩
  subst hh
  go_wp2
  go_ret2
  exact⟨by rw[HG.out,hE.out];rfl,HB2.out⟩
 ·have y1:(fm==0)=false:=by simpa using z1
  by_cases z2:n.most=0
  ·have hE:Hid (timM fm n.most=mostF 0):=by show _=_;unfold timM mostF;rw[if_pos (Or.inr z2)];rfl
   have y2:(n.most==0)=true:=by simpa using z2
   clear z1 z2
   go_wp2_with fail
   refine(cap_any _ _ _).mono ?_
   rintro e w4 ⟨rfl,hh⟩
   subst hh
   go_wp2
   go_ret2
   exact⟨by rw[HG.out,hE.out];rfl,HB2.out⟩
  ·have y2:(n.most==0)=false:=by simpa using z2
   by_cases z3:fm<0
   ·have hE:Hid (timM fm n.most=mostF (-1)):=by show _=_;unfold timM mostF;rw[if_neg (by omega),if_pos (Or.inl z3)];rfl
    clear z1 z2
    go_wp2_with fail
    refine(cap_any _ _ _).mono ?_
    rintro e w4 ⟨rfl,hh⟩
    subst hh
    go_wp2
    go_ret2
    exact⟨by rw[HG.out,hE.out];rfl,HB2.out⟩
   ·by_cases z4:n.most<0
    ·have hE:Hid (timM fm n.most=mostF (-1)):=by show _=_;unfold timM mostF;rw[if_neg (by omega),if_pos (Or.inr z4)];rfl
     clear z1 z2
     go_wp2_with fail
     refine(cap_any _ _ _).mono ?_
     rintro e w4 ⟨rfl,hh⟩
     subst hh
     go_wp2
     go_ret2
     exact⟨by rw[HG.out,hE.out];rfl,HB2.out⟩
    ·have hE:Hid (timM fm n.most=mostF (fm*n.most)):=by show _=_;unfold timM;rw[if_neg (by omega),if_neg (by omega)]
     have hms2:=mul_small (show 0≤fm by omega) f4 (show 0≤n.most by omega) hm.2
     have hmw2:IntKind.i64.wrap (fm*n.most)=fm*n.most:=by rw[IntKind.wrap_i64];omega
     clear z1 z2 hms2
     go_wp2_with fail
     refine(cap_any _ _ _).mono ?_
     rintro e w4 ⟨rfl,hh⟩
     subst hh
     go_wp2
     go_ret2
     exact⟨by rw[HG.out,hE.out];rfl,HB2.out⟩
theorem repE_zero{t:Tr}(h:repE t=0):(0≤t.least∧t.least≤100)∧(-1≤t.most∧t.most≤100):=by
 unfold repE at h
 by_cases h1:0≤t.least∧t.least≤100
 ·rw [if_neg (fun hh=>hh h1)]at h
  by_cases h2:t.most= -1∨(t.least≤t.most∧t.most≤100)
  ·exact⟨h1,by omega⟩
  ·rw[if_pos h2]at h;omega
 ·rw[if_pos h1]at h;omega
theorem wide_any{w0:World}{n:NV}{t:Tr}(h:NodeC w0 n t):good t→∀w:World,Below w0.heap.size w0 w→Calls prog 25 #[nvV n] w fun e w'=>e=.returned (wdV (factT t))∧Below w.heap.size w w':=by
 induction h with
 |mk n set ks vs hs hk hkids ih=>
  intro hg w hw0
  have hgn:=good_node hg
  have hgk:=good_kids hg
  have hkind:(Tr.mk n.kind n.num n.least n.most n.way n.fold set ks).kind=n.kind:=rfl
  have hkb:=hgn.2.1
  unfold kidsB at hkb
  rw[hkind]at hkb
  have HIH:=hide (fun j hj W hW=>ih j hj (hgk j hj) W hW)
  have HOk:=hide (fun j (hj:j<ks.length)=>factT_ok ks[j] (hgk j hj))
  have HK:=hide hk
  have hrep:=hgn.2.2
  rw[hkind]at hrep
  have hk1:=hgn.1
  rw[hkind]at hk1
  have HGet:=hide (factL_get ks)
  have hb1:Below w.heap.size w (w.alloc (nvO n)):=allocB w _
  obtain⟨w1,hw1⟩:=named (w.alloc (nvO n))
  have hX1:w1.heap[w.heap.size]? =some (nvO n):=by rw[hw1];exact at_new _ _
  rw[← hw1]at hb1
  have hB1':=hw0.andT hb1
  have HB1':=hide hB1'
  have HB1:=hide hb1
  have HX1:=hide hX1
  have HW0:=hide hw0
  obtain⟨d0,d1,d2,d3,d4,d5,d6,d7⟩:=nv_cells hX1
  simp only[nvO]at hw1
  obtain⟨G,hG⟩:=named (factT (.mk n.kind n.num n.least n.most n.way n.fold set ks))
  have HG:Hid (G=factK n.kind n.least n.most (factL ks)):=hG
  rw[← hG]
  have hrepE:repE (.mk n.kind n.num n.least n.most n.way n.fold set ks)=repE (.mk n.kind n.num n.least n.most n.way n.fold set ks):=rfl
  clear hs hk hkids ih hg hgn hgk hkind hb1 hX1 hB1' hw0 hG hrepE
  by_cases h2:n.kind=2
  ·have b2:(n.kind==2)=true:=by simpa using h2
   have hF:Hid (G=⟨1,1,true⟩):=by show _=_;rw[HG.out];unfold factK;simp[h2]
   clear hrep hkb hk1 h2
   go_enter func25,ntmps25
   go_upto_region 1 with fail
   rw[← hw1]
   clear hw1
   go_wp2
   go_ret2
   exact⟨by rw[hF.out];rfl,HB1.out⟩
  ·by_cases h11:n.kind=11
   ·have b2:(n.kind==2)=false:=by simp only[beq_eq_false_iff_ne,ne_eq];omega
    have b11:(n.kind==11)=true:=by simpa using h11
    have hF:Hid (G=headF (factL ks)):=by show _=_;rw[HG.out];unfold factK;simp[h11]
    have hl1:ks.length=1:=by
     rw[if_neg (by omega),if_neg (by omega),if_pos (by omega)]at hkb
     exact of_decide_eq_true hkb
    have hhd:headF (factL ks)=factT (ks[0]'(by omega)):=by
     have h1:=HGet.out 0 (by omega)
     cases hq:factL ks with
     |nil=>rw[hq]at h1;cases h1
     |cons f fs=>rw[hq]at h1;exact Option.some.inj h1
    clear hkb hrep hk1 h2 h11
    rcases HK.out with⟨_,_,_,h00⟩|⟨x,hx,hkk,hmx,hcl⟩
    ·exact absurd h00 (by omega)
    ·have hcx:NCells w0 x (vs 0):=by have:=hcl 0 (by omega);simpa[add_zero']using this
     have HC:=hide (HIH.out 0 (by omega) w1 HB1'.out)
     obtain⟨c0,c1,c2,c3,c4,c5,c6,c7⟩:=hcx.below HB1'.out
     obtain⟨FF,hFF⟩:=named (factT (ks[0]'(by omega)))
     rw[hhd, ←hFF]at hF
     rw[← hFF]at HC
     rw[hx,hkk,hl1]at d2
     obtain⟨fl,fm,fp⟩:=FF
     clear hcl hFF hx hkk hmx hhd hcx hl1
     simp only[wdV]at HC
     go_enter func25,ntmps25
     go_upto_region 1 with fail
     rw[← hw1]
     clear hw1
     go_wp2_with fail
     refine HC.out.mono ?_
     rintro e w2 ⟨rfl,hb2⟩
     have HB2:=hide (HB1.out.andT hb2)
     clear hb2 d0 d1 d2 d3 d4 d5 d6 d7 c0 c1 c2 c3 c4 c5 c6 c7
     go_wp2
     go_ret2
     exact⟨by rw[hF.out];rfl,HB2.out⟩
   ·by_cases h13:n.kind=13
    ·have b2:(n.kind==2)=false:=by simp only[beq_eq_false_iff_ne,ne_eq];omega
     have b11:(n.kind==11)=false:=by simp only[beq_eq_false_iff_ne,ne_eq];omega
     have b13:(n.kind==13)=true:=by simpa using h13
     have hF:Hid (G=headF (factL ks)):=by show _=_;rw[HG.out];unfold factK;simp[h13]
     have hl1:ks.length=1:=by
      rw[if_neg (by omega),if_neg (by omega),if_pos (by omega)]at hkb
      exact of_decide_eq_true hkb
     have hhd:headF (factL ks)=factT (ks[0]'(by omega)):=by
      have h1:=HGet.out 0 (by omega)
      cases hq:factL ks with
      |nil=>rw[hq]at h1;cases h1
      |cons f fs=>rw[hq]at h1;exact Option.some.inj h1
     clear hkb hrep hk1 h2 h11 h13
     rcases HK.out with⟨_,_,_,h00⟩|⟨x,hx,hkk,hmx,hcl⟩
     ·exact absurd h00 (by omega)
     ·have hcx:NCells w0 x (vs 0):=by have:=hcl 0 (by omega);simpa[add_zero']using this
      have HC:=hide (HIH.out 0 (by omega) w1 HB1'.out)
      obtain⟨c0,c1,c2,c3,c4,c5,c6,c7⟩:=hcx.below HB1'.out
      obtain⟨FF,hFF⟩:=named (factT (ks[0]'(by omega)))
      rw[hhd, ←hFF]at hF
      rw[← hFF]at HC
      rw[hx,hkk,hl1]at d2
      obtain⟨fl,fm,fp⟩:=FF
      clear hcl hFF hx hkk hmx hhd hcx hl1
      simp only[wdV]at HC
      go_enter func25,ntmps25
      go_upto_region 1 with fail
      rw[← hw1]
      clear hw1
      go_wp2_with fail
      refine HC.out.mono ?_
      rintro e w2 ⟨rfl,hb2⟩
      have HB2:=hide (HB1.out.andT hb2)
      clear hb2 d0 d1 d2 d3 d4 d5 d6 d7 c0 c1 c2 c3 c4 c5 c6 c7
      go_wp2
      go_ret2
      exact⟨by rw[hF.out];rfl,HB2.out⟩
    ·by_cases h18:n.kind=18
     ·have b2:(n.kind==2)=false:=by simp only[beq_eq_false_iff_ne,ne_eq];omega
      have b11:(n.kind==11)=false:=by simp only[beq_eq_false_iff_ne,ne_eq];omega
      have b13:(n.kind==13)=false:=by simp only[beq_eq_false_iff_ne,ne_eq];omega
      have b18:(n.kind==18)=true:=by simpa using h18
      have hF:Hid (G=⟨0, -1,false⟩):=by show _=_;rw[HG.out];unfold factK;simp[h18]
      clear hrep hkb hk1 h2 h11 h13 h18
      go_enter func25,ntmps25
      go_upto_region 1 with fail
      rw[← hw1]
      clear hw1
      go_wp2
      go_ret2
      exact⟨by rw[hF.out];rfl,HB1.out⟩
     ·by_cases h9:n.kind=9
      ·have hl2:2≤ks.length:=by
        rw[if_pos h9]at hkb
        simp only[Bool.and_eq_true,decide_eq_true_eq]at hkb
        exact hkb.1.1
       have hF:G=foldF addF (factL ks):=by rw[HG.out];unfold factK;simp[h9]
       rw[hF]
       exact wide_row h9 HK.out HIH.out HOk.out hl2 w HW0.out
      ·by_cases h10:n.kind=10
       ·have hl2:2≤ks.length:=by
         rw[if_neg (by omega),if_pos h10]at hkb
         simp only[Bool.and_eq_true,decide_eq_true_eq]at hkb
         exact hkb.1
        have hF:G=foldF orF (factL ks):=by rw[HG.out];unfold factK;simp[h10]
        rw[hF]
        exact wide_either h10 HK.out HIH.out HOk.out hl2 w HW0.out
       ·by_cases h12:n.kind=12
        ·have hl1:ks.length=1:=by
          rw[if_neg (by omega),if_neg (by omega),if_pos (by omega)]at hkb
          exact of_decide_eq_true hkb
         have hhd:headF (factL ks)=factT (ks[0]'(by omega)):=by
          have h1:=HGet.out 0 (by omega)
          cases hq:factL ks with
          |nil=>rw[hq]at h1;cases h1
          |cons f fs=>rw[hq]at h1;exact Option.some.inj h1
         have hF:G=repF (factT (ks[0]'(by omega))) n.least n.most:=by rw[HG.out];unfold factK;simp[h12,hhd]
         have hr:=repE_zero (hrep h12)
         rcases HK.out with⟨_,_,_,h00⟩|⟨x,hx,hkk,hmx,hcl⟩
         ·exact absurd h00 (by omega)
         ·have hcx:NCells w0 x (vs 0):=by have:=hcl 0 (by omega);simpa[add_zero']using this
          rw[hF]
          exact wide_repeat h12 hx (by omega) hcx _ (fun W hW=>HIH.out 0 (by omega) W hW) (HOk.out 0 (by omega)) hr.1 hr.2 w HW0.out
        ·have b2:(n.kind==2)=false:=by simp only[beq_eq_false_iff_ne,ne_eq];omega
         have b11:(n.kind==11)=false:=by simp only[beq_eq_false_iff_ne,ne_eq];omega
         have b13:(n.kind==13)=false:=by simp only[beq_eq_false_iff_ne,ne_eq];omega
         have b18:(n.kind==18)=false:=by simp only[beq_eq_false_iff_ne,ne_eq];omega
         have b9:(n.kind==9)=false:=by simp only[beq_eq_false_iff_ne,ne_eq];omega
         have b10:(n.kind==10)=false:=by simp only[beq_eq_false_iff_ne,ne_eq];omega
         have b12:(n.kind==12)=false:=by simp only[beq_eq_false_iff_ne,ne_eq];omega
         have hF:Hid (G.least=0∧G.most=0):=by show _∧_;rw[HG.out];unfold factK;simp only[h9,h10,h11,h12,h13,h18,h2,if_false,or_self];split<;>exact⟨rfl,rfl⟩
         clear hrep hkb hk1 h2 h11 h13 h18 h9 h10 h12
         go_enter func25,ntmps25
         go_upto_region 1 with fail
         rw[← hw1]
         clear hw1
         go_wp2
         go_ret2
         exact⟨by rw[show wdV G=.tuple #[.int .i64 0,.int .i64 0] by simp only[wdV];rw[hF.out.1,hF.out.2]];rfl,HB1.out⟩
end Go.Proofs.YtfnndcbjklppeaaGreatDoor
