import Derived.Test.YtfnndcbjklppeaaGreatDoorVA2
import Derived.Test.YtfnndcbjklppeaaGreatDoorVL2
set_option maxHeartbeats 8000000
set_option maxRecDepth 100000
set_option linter.unusedVariables false
open Go.Proofs.Tryz
namespace Go.Proofs.YtfnndcbjklppeaaGreatDoor
open Go.RowKit
def most0:List Tr→Int
 |[]=>0
 |t::_=>(factT t).most
theorem most0_at{ts:List Tr}(h:0<ts.length):most0 ts=(factT ts[0]).most:=by
 cases ts with
 |nil=>simp at h
 |cons t ts=>rfl
def bhB(t:Tr):Bool:=!(decide (t.kind=16)||decide (t.kind=17))||(decide (0≤most0 t.kids)&&decide (most0 t.kids≤100))
def bhA(t:Tr):Bool:=(flatT t).all bhB
theorem flatL_all(f:Tr→Bool):∀ts:List Tr,(flatL ts).all f=ts.all (fun t=>(flatT t).all f)
 |[]=>rfl
 |t::ts=>by rw[flatL,List.all_append,flatL_all f ts];rfl
theorem bhA_kids(t:Tr):bhA t=(bhB t&&t.kids.all bhA):=by
 unfold bhA
 rw[flatT_kids,List.all_cons,flatL_all]
theorem all_kid{ts:List Tr}(h:∀j (hj:j<ts.length),bhA ts[j]=true):ts.all bhA=true:=by
 rw[List.all_eq_true]
 intro x hx
 obtain⟨j,hj,rfl⟩:=List.getElem_of_mem hx
 exact h j hj
theorem not_kid{ts:List Tr}{j:Nat}(hj:j<ts.length)(h:bhA ts[j]=false):ts.all bhA=false:=by
 rw[List.all_eq_false]
 exact⟨ts[j],List.getElem_mem _,by simp[h]⟩
theorem hasWidths_any{w0:World}{n:NV}{t:Tr}(h:NodeC w0 n t):good t→∀w:World,Below w0.heap.size w0 w→Calls prog 41 #[nvV n] w fun e w'=>e=.returned (.bool (bhA t))∧Below w.heap.size w w':=by
 induction h with
 |mk n set ks vs hs hk hkids ih=>
  intro hg w hw0
  have hgn:=good_node hg
  have hgk:=good_kids hg
  have hkind:(Tr.mk n.kind n.num n.least n.most n.way n.fold set ks).kind=n.kind:=rfl
  have hkb:=hgn.2.1
  unfold kidsB at hkb
  rw[hkind]at hkb
  have HIH:=hide (fun j hj W hW=>ih j hj (hgk j hj) W hW)
  have HFa:=hide (fun j (hj:j<ks.length) W hW=>facts_any (hkids j hj) (hgk j hj) W hW)
  have HK:=hide hk
  have HKL:=hide hk.len
  have hb1:Below w.heap.size w (w.alloc (nvO n)):=allocB w _
  obtain⟨w1,hw1⟩:=named (w.alloc (nvO n))
  have hX1:w1.heap[w.heap.size]? =some (nvO n):=by rw[hw1];exact at_new _ _
  rw[← hw1]at hb1
  have HB1':=hide (hw0.andT hb1)
  have HB1:=hide hb1
  have HX1:=hide hX1
  have HW0:=hide hw0
  obtain⟨d0,d1,d2,d3,d4,d5,d6,d7⟩:=nv_cells hX1
  obtain⟨R,hR⟩:=named (bhA (.mk n.kind n.num n.least n.most n.way n.fold set ks))
  have HRb:Hid (R=(bhB (.mk n.kind n.num n.least n.most n.way n.fold set ks)&&ks.all bhA)):=by show _=_;rw[hR,bhA_kids];rfl
  have HBb:Hid (bhB (.mk n.kind n.num n.least n.most n.way n.fold set ks)=(!(decide (n.kind=16)||decide (n.kind=17))||(decide (0≤most0 ks)&&decide (most0 ks≤100)))):=rfl
  rw[← hR]
  simp only[nvO]at hw1
  clear hs hk hkids ih hg hgn hgk hkind hb1 hX1 hw0 hR
  by_cases h16:n.kind=16
  ·have hl1:ks.length=1:=by
    rw[if_neg (by omega),if_neg (by omega),if_pos (by omega)]at hkb
    exact of_decide_eq_true hkb
   have b16:(n.kind==16)=true:=by simpa using h16
   have hkd:(decide (n.kind=16)||decide (n.kind=17))=true:=by simp[h16]
   rcases HK.out with⟨_,_,_,h00⟩|⟨x,hx,hkk,hmx,hcl⟩
   ·exact absurd h00 (by omega)
   ·have hcx :NCells w0 x (vs 0):=by have:=hcl 0 (by omega);simpa[add_zero']using this
    have HC:=hide (HFa.out 0 (by omega) w1 HB1'.out)
    obtain⟨c0,c1,c2,c3,c4,c5,c6,c7⟩:=hcx.below HB1'.out
    obtain⟨FF,hFF⟩:=named (factT (ks[0]'(by omega)))
    have HM0:Hid (most0 ks=FF.most):=by show _=_;rw[hFF,most0_at (by omega)]
    rw[← hFF]at HC
    obtain⟨kl,hkl⟩:=named n.kl
    have hkl1:kl=1:=by omega
    rw[hx, ←hkl,hkl1]at d2
    have HBv:Hid (bhB (.mk n.kind n.num n.least n.most n.way n.fold set ks)=(decide (0≤FF.most)&&decide (FF.most≤100))):=by show _=_;rw[HBb.out,hkd,HM0.out];rfl
    clear hcl hFF hx hkk hmx hcx hkl hkl1 hkd HM0 HBb hkb h16 hl1
    obtain⟨fl,fm,fp⟩:=FF
    simp only[ftV]at HC HBv
    go_enter func41,ntmps41
    go_upto_region 1 with fail
    rw[← hw1]
    clear hw1
    go_wp2_with fail
    refine HC.out.mono ?_
    rintro e w2 ⟨rfl,hb2⟩
    have HB2:=hide (HB1.out.andT hb2)
    have HX2:=hide (show w2.heap[w.heap.size]? =some (nvO n) by rw[hb2.block _ (lt_of_block HX1.out)];exact HX1.out)
    clear hb2 c0 c1 c2 c3 c4 c5 c6 c7 d0 d1 d2 d3 d4 d5 d6 d7 HC
    have hfd:∀W:World,(Instr.field 127 (.agg #[.int .i64 fl,.int .i64 fm,.bool fp]) 1).run prog W=.ok (.int .i64 fm) W:=fun W=>by rfl
    by_cases hm0:fm<0
    ·have HE:Hid (R=false):=by show _=_;rw[HRb.out,HBv.out,show decide (0≤fm)=false from decide_eq_false (by omega)];rfl
     go_wp2
     go_ret
     exact⟨by rw[HE.out];rfl,HB2.out⟩
    ·by_cases hm1:100<fm
     ·have HE:Hid (R=false):=by show _=_;rw[HRb.out,HBv.out,show decide (fm≤100)=false from decide_eq_false (by omega)];simp
      go_wp2
      go_ret
      exact⟨by rw[HE.out];rfl,HB2.out⟩
     ·have HRk:Hid (R=ks.all bhA):=by show _=_;rw[HRb.out,HBv.out,show decide (fm≤100)=true from decide_eq_true (by omega),show decide (0≤fm)=true from decide_eq_true (by omega)];rfl
      clear HRb HBv
      have HNot:Hid (∀j (hj:j<ks.length),bhA ks[j]=false→R=false):=fun j hj hh=>by rw[HRk.out];exact not_kid hj hh
      have HAllk:Hid ((∀j (hj:j<ks.length),bhA ks[j]=true)→R=true):=fun hh=>by rw[HRk.out];exact all_kid hh
      clear HRk
      obtain⟨d0,d1,d2,d3,d4,d5,d6,d7⟩:=nv_cells HX2.out
      go_wp2
      go_loopw [29] (fun v wr=>∃(j:Nat),j≤ks.length∧v=.int .i64 j∧(∀i (hi:i<ks.length),i<j→bhA ks[i]=true)∧Below w.heap.size w wr) (fun v _=>ks.length - (intOf v).toNat)
      case atStart=>exact⟨0,Nat.zero_le _,rfl,fun i hi h0=>by omega,HB2.out⟩
      case round=>
       obtain⟨j,hj,rfl,hA,hb⟩:=hrel
       obtain⟨w5,hw5⟩:=named wr
       subst hw5
       have HA:=hide hA
       have HB5:=hide hb
       clear hA hb d0 d1 d2 d3 d4 d5 d6 d7
       by_cases hlt:j<ks.length
       ·have e2:(j:Int)<(n.kl:Int):=by have:=HKL.out;omega
        have e4:(0:Int)≤(j:Int):=by omega
        rcases HK.out with⟨_,_,_,h0⟩|⟨x,hx,hkk,hmx,hcl⟩
        ·exact absurd h0 (by omega)
        ·obtain ⟨d0,d1,d2,d3,d4,d5,d6,d7⟩:=(hcl j hlt).below (HW0.out.andT HB5.out)
         have hB6:Below w.heap.size w (w5.alloc (nvO (vs j))):=HB5.out.alloc HB5.out.size _
         have HC:=hide (HIH.out j hlt (w5.alloc (nvO (vs j))) (HW0.out.andT hB6))
         obtain⟨w6,hw6⟩:=named (w5.alloc (nvO (vs j)))
         have hbx:w6.heap[w5.heap.size]? =some (nvO (vs j)):=by rw[hw6];exact at_new _ _
         rw[← hw6]at HC hB6
         have HB6:=hide hB6
         obtain⟨b0,b1,b2,b3,b4,b5,b6,b7⟩:=nv_cells hbx
         simp only[nvO]at hw6
         obtain⟨z,hz⟩:=named (bhA ks[j])
         have HZ:Hid (bhA ks[j]=z):=hz.symm
         rw[← hz]at HC
         have hjw:IntKind.i64.wrap ((j:Int)+1)=(j:Int)+1:=by rw[IntKind.wrap_i64];omega
         rw[hx]
         clear hcl hx hB6 hbx hz hkk
         go_wp2_with fail
         rw[← hw6]
         clear hw6
         refine HC.out.mono ?_
         rintro e w7 ⟨rfl,hb7⟩
         have HB7:=hide (HB6.out.andT hb7)
         clear hb7 HC HB5 HB6 d0 d1 d2 d3 d4 d5 d6 d7 b0 b1 b2 b3 b4 b5 b6 b7
         cases z with
         |true=>
          go_wp2
          go_roundw
          case rel=>exact⟨j+1,by omega,by go_num,fun i hi h0=>by
           by_cases hij:i=j
           ·subst hij;exact HZ.out
           ·exact HA.out i hi (by omega),HB7.out⟩
          case measure=>simp[intOf];omega
         |false=>
          have HE:Hid (R=false):=HNot.out j hlt HZ.out
          go_wp2
          go_ret
          exact⟨by rw[HE.out];rfl,HB7.out⟩
       ·have e2:¬(j:Int)<(n.kl:Int):=by have:=HKL.out;omega
        have HE:Hid (R=true):=HAllk.out (fun i hi=>HA.out i hi (by omega))
        go_wp2
        go_ret
        exact⟨by rw[HE.out];rfl,HB5.out⟩
  ·by_cases h17:n.kind=17
   ·have hl1:ks.length=1:=by
     rw[if_neg (by omega),if_neg (by omega),if_pos (by omega)]at hkb
     exact of_decide_eq_true hkb
    have b16:(n.kind==16)=false:=by simpa using h16
    have b17:(n.kind==17)=true:=by simpa using h17
    have hkd:(decide (n.kind=16)||decide (n.kind=17))=true:=by simp[h17]
    rcases HK.out with⟨_,_,_,h00⟩|⟨x,hx,hkk,hmx,hcl⟩
    ·exact absurd h00 (by omega)
    ·have hcx :NCells w0 x (vs 0):=by have:=hcl 0 (by omega);simpa[add_zero']using this
     have HC:=hide (HFa.out 0 (by omega) w1 HB1'.out)
     obtain⟨c0,c1,c2,c3,c4,c5,c6,c7⟩:=hcx.below HB1'.out
     obtain⟨FF,hFF⟩:=named (factT (ks[0]'(by omega)))
     have HM0:Hid (most0 ks=FF.most):=by show _=_;rw[hFF,most0_at (by omega)]
     rw[← hFF]at HC
     obtain⟨kl,hkl⟩:=named n.kl
     have hkl1:kl=1:=by omega
     rw[hx, ←hkl,hkl1]at d2
     have HBv:Hid (bhB (.mk n.kind n.num n.least n.most n.way n.fold set ks)=(decide (0≤FF.most)&&decide (FF.most≤100))):=by show _=_;rw[HBb.out,hkd,HM0.out];rfl
     clear hcl hFF hx hkk hmx hcx hkl hkl1 hkd HM0 HBb hkb h17 hl1
     obtain⟨fl,fm,fp⟩:=FF
     simp only[ftV]at HC HBv
     go_enter func41,ntmps41
     go_upto_region 1 with fail
     rw[← hw1]
     clear hw1
     go_wp2_with fail
     refine HC.out.mono ?_
     rintro e w2 ⟨rfl,hb2⟩
     have HB2:=hide (HB1.out.andT hb2)
     have HX2:=hide (show w2.heap[w.heap.size]? =some (nvO n) by rw[hb2.block _ (lt_of_block HX1.out)];exact HX1.out)
     clear hb2 c0 c1 c2 c3 c4 c5 c6 c7 d0 d1 d2 d3 d4 d5 d6 d7 HC
     have hfd:∀W:World,(Instr.field 127 (.agg #[.int .i64 fl,.int .i64 fm,.bool fp]) 1).run prog W=.ok (.int .i64 fm) W:=fun W=>by rfl
     by_cases hm0:fm<0
     ·have HE:Hid (R=false):=by show _=_;rw[HRb.out,HBv.out,show decide (0≤fm)=false from decide_eq_false (by omega)];rfl
      go_wp2
      go_ret
      exact⟨by rw[HE.out];rfl,HB2.out⟩
     ·by_cases hm1:100<fm
      ·have HE:Hid (R=false):=by show _=_;rw[HRb.out,HBv.out,show decide (fm≤100)=false from decide_eq_false (by omega)];simp
       go_wp2
       go_ret
       exact⟨by rw[HE.out];rfl,HB2.out⟩
      ·have HRk:Hid (R=ks.all bhA):=by show _=_;rw[HRb.out,HBv.out,show decide (fm≤100)=true from decide_eq_true (by omega),show decide (0≤fm)=true from decide_eq_true (by omega)];rfl
       clear HRb HBv
       have HNot:Hid (∀j (hj:j<ks.length),bhA ks[j]=false→R=false):=fun j hj hh=>by rw[HRk.out];exact not_kid hj hh
       have HAllk:Hid ((∀j (hj:j<ks.length),bhA ks[j]=true)→R=true):=fun hh=>by rw[HRk.out];exact all_kid hh
       clear HRk
       obtain⟨d0,d1,d2,d3,d4,d5,d6,d7⟩:=nv_cells HX2.out
       go_wp2
       go_loopw [29] (fun v wr=>∃(j:Nat),j≤ks.length∧v=.int .i64 j∧(∀i (hi:i<ks.length),i<j→bhA ks[i]=true)∧Below w.heap.size w wr) (fun v _=>ks.length - (intOf v).toNat)
       case atStart=>exact⟨0,Nat.zero_le _,rfl,fun i hi h0=>by omega,HB2.out⟩
       case round=>
        obtain⟨j,hj,rfl,hA,hb⟩:=hrel
        obtain⟨w5,hw5⟩:=named wr
        subst hw5
        have HA:=hide hA
        have HB5:=hide hb
        clear hA hb d0 d1 d2 d3 d4 d5 d6 d7
        by_cases hlt:j<ks.length
        ·have e2:(j:Int)<(n.kl:Int):=by have:=HKL.out;omega
         have e4:(0:Int)≤(j:Int):=by omega
         rcases HK.out with⟨_,_,_,h0⟩|⟨x,hx,hkk,hmx,hcl⟩
         ·exact absurd h0 (by omega)
         ·obtain ⟨d0,d1,d2,d3,d4,d5,d6,d7⟩:=(hcl j hlt).below (HW0.out.andT HB5.out)
          have hB6:Below w.heap.size w (w5.alloc (nvO (vs j))):=HB5.out.alloc HB5.out.size _
          have HC:=hide (HIH.out j hlt (w5.alloc (nvO (vs j))) (HW0.out.andT hB6))
          obtain⟨w6,hw6⟩:=named (w5.alloc (nvO (vs j)))
          have hbx:w6.heap[w5.heap.size]? =some (nvO (vs j)):=by rw[hw6];exact at_new _ _
          rw[← hw6]at HC hB6
          have HB6:=hide hB6
          obtain⟨b0,b1,b2,b3,b4,b5,b6,b7⟩:=nv_cells hbx
          simp only[nvO]at hw6
          obtain⟨z,hz⟩:=named (bhA ks[j])
          have HZ:Hid (bhA ks[j]=z):=hz.symm
          rw[← hz]at HC
          have hjw:IntKind.i64.wrap ((j:Int)+1)=(j:Int)+1:=by rw[IntKind.wrap_i64];omega
          rw[hx]
          clear hcl hx hB6 hbx hz hkk
          go_wp2_with fail
          rw[← hw6]
          clear hw6
          refine HC.out.mono ?_
          rintro e w7 ⟨rfl,hb7⟩
          have HB7:=hide (HB6.out.andT hb7)
          clear hb7 HC HB5 HB6 d0 d1 d2 d3 d4 d5 d6 d7 b0 b1 b2 b3 b4 b5 b6 b7
          cases z with
          |true=>
           go_wp2
           go_roundw
           case rel=>exact⟨j+1,by omega,by go_num,fun i hi h0=>by
            by_cases hij:i=j
            ·subst hij;exact HZ.out
            ·exact HA.out i hi (by omega),HB7.out⟩
           case measure=>simp[intOf];omega
          |false=>
           have HE:Hid (R=false):=HNot.out j hlt HZ.out
           go_wp2
           go_ret
           exact⟨by rw[HE.out];rfl,HB7.out⟩
        ·have e2:¬(j:Int)<(n.kl:Int):=by have:=HKL.out;omega
         have HE:Hid (R=true):=HAllk.out (fun i hi=>HA.out i hi (by omega))
         go_wp2
         go_ret
         exact⟨by rw[HE.out];rfl,HB5.out⟩
   ·have b16:(n.kind==16)=false:=by simpa using h16
    have b17:(n.kind==17)=false:=by simpa using h17
    have HRk:Hid (R=ks.all bhA):=by show _=_;rw[HRb.out,HBb.out,show(decide (n.kind=16)||decide (n.kind=17))=false by simp[h16,h17]];rfl
    clear HRb HBb h16 h17 hkb d0 d1 d2 d3 d4 d5 d6 d7 HFa
    obtain⟨d0,d1,d2,d3,d4,d5,d6,d7⟩:=nv_cells HX1.out
    go_enter func41,ntmps41
    go_upto_region 1 with fail
    rw[← hw1]
    clear hw1
    have HNot:Hid (∀j (hj:j<ks.length),bhA ks[j]=false→R=false):=fun j hj hh=>by rw[HRk.out];exact not_kid hj hh
    have HAllk:Hid ((∀j (hj:j<ks.length),bhA ks[j]=true)→R=true):=fun hh=>by rw[HRk.out];exact all_kid hh
    clear HRk
    obtain⟨d0,d1,d2,d3,d4,d5,d6,d7⟩:=nv_cells HX1.out
    go_wp2
    go_loopw [29] (fun v wr=>∃(j:Nat),j≤ks.length∧v=.int .i64 j∧(∀i (hi:i<ks.length),i<j→bhA ks[i]=true)∧Below w.heap.size w wr) (fun v _=>ks.length - (intOf v).toNat)
    case atStart=>exact⟨0,Nat.zero_le _,rfl,fun i hi h0=>by omega,HB1.out⟩
    case round=>
     obtain⟨j,hj,rfl,hA,hb⟩:=hrel
     obtain⟨w5,hw5⟩:=named wr
     subst hw5
     have HA:=hide hA
     have HB5:=hide hb
     clear hA hb d0 d1 d2 d3 d4 d5 d6 d7
     by_cases hlt:j<ks.length
     ·have e2:(j:Int)<(n.kl:Int):=by have:=HKL.out;omega
      have e4:(0:Int)≤(j:Int):=by omega
      rcases HK.out with⟨_,_,_,h0⟩|⟨x,hx,hkk,hmx,hcl⟩
      ·exact absurd h0 (by omega)
      ·obtain ⟨d0,d1,d2,d3,d4,d5,d6,d7⟩:=(hcl j hlt).below (HW0.out.andT HB5.out)
       have hB6:Below w.heap.size w (w5.alloc (nvO (vs j))):=HB5.out.alloc HB5.out.size _
       have HC:=hide (HIH.out j hlt (w5.alloc (nvO (vs j))) (HW0.out.andT hB6))
       obtain⟨w6,hw6⟩:=named (w5.alloc (nvO (vs j)))
       have hbx:w6.heap[w5.heap.size]? =some (nvO (vs j)):=by rw[hw6];exact at_new _ _
       rw[← hw6]at HC hB6
       have HB6:=hide hB6
       obtain⟨b0,b1,b2,b3,b4,b5,b6,b7⟩:=nv_cells hbx
       simp only[nvO]at hw6
       obtain⟨z,hz⟩:=named (bhA ks[j])
       have HZ:Hid (bhA ks[j]=z):=hz.symm
       rw[← hz]at HC
       have hjw:IntKind.i64.wrap ((j:Int)+1)=(j:Int)+1:=by rw[IntKind.wrap_i64];omega
       rw[hx]
       clear hcl hx hB6 hbx hz hkk
       go_wp2_with fail
       rw[← hw6]
       clear hw6
       refine HC.out.mono ?_
       rintro e w7 ⟨rfl,hb7⟩
       have HB7:=hide (HB6.out.andT hb7)
       clear hb7 HC HB5 HB6 d0 d1 d2 d3 d4 d5 d6 d7 b0 b1 b2 b3 b4 b5 b6 b7
       cases z with
       |true=>
        go_wp2
        go_roundw
        case rel=>exact⟨j+1,by omega,by go_num,fun i hi h0=>by
         by_cases hij:i=j
         ·subst hij;exact HZ.out
         ·exact HA.out i hi (by omega),HB7.out⟩
        case measure=>simp[intOf];omega
       |false=>
        have HE:Hid (R=false):=HNot.out j hlt HZ.out
        go_wp2
        go_ret
        exact⟨by rw[HE.out];rfl,HB7.out⟩
     ·have e2:¬(j:Int)<(n.kl:Int):=by have:=HKL.out;omega
      have HE:Hid (R=true):=HAllk.out (fun i hi=>HA.out i hi (by omega))
      go_wp2
      go_ret
      exact⟨by rw[HE.out];rfl,HB5.out⟩
end Go.Proofs.YtfnndcbjklppeaaGreatDoor
