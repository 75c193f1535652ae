import Derived.Test.YtfnndcbjklppeaaGreatDoorXB2
import Derived.Deep.Cut
set_option maxHeartbeats 8000000
set_option maxRecDepth 100000
set_option linter.unusedVariables false
open Go.Proofs.Tryz
namespace Go.Proofs.YtfnndcbjklppeaaGreatDoor
open Go.RowKit
theorem rightNode_badB(n:NV)(t:Tr)(w:World)(h:NodeC w n t)(hsm:t.kids.length≤4611686018427387904)(hkd:1≤n.kind∧n.kind≤18)(hf5:fr5 n=false)(hf6:fr6 n t.kids=true):Calls prog 46 #[nvV n] w fun e w'=>e=.returned (.int .i64 (rnE t))∧Below w.heap.size w w':=by
 have hb1:Below w.heap.size w (w.alloc (nvO n)):=allocB w _
 have HN:=hide h
 have HN1:=hide (h.keep hb1)
 obtain⟨k0,k1,k2,k3,k4,k5,hr, -⟩:=h.open
 obtain⟨K,hK1,hK2,hK3,hK4⟩:=kids_list h
 obtain⟨w1,hw1⟩:=named (w.alloc (nvO n))
 have hX1:w1.heap[w.heap.size]? =some (nvO n):=by rw[hw1];exact at_new _ _
 rw[← hw1]at hb1 HN1
 have HB1:=hide hb1
 have HX:=hide hX1
 have HS:=hide (fun W (hW:Below w.heap.size w W)=>checkSet_any _ _ W (hr.below hW))
 have HK2:=hide hK2
 have HKc:Hid (K.length=0∨∃x,n.ka=some x∧∀i (hi:i<K.length),NCells w1 (x.add (i*8)) K[i].1):=by
  rcases hK4 with h0|⟨x,hx,hc⟩
  ·exact .inl h0
  ·exact .inr ⟨x,hx,fun i hi=>(hc i hi).below hb1⟩
 have HKl:=hide hK3
 have HKm:=hide hK1
 obtain⟨d0,d1,d2,d3,d4,d5,d6,d7⟩:=nv_cells hX1
 have hkb:n.kl≤4611686018427387904:=by rw[hK3, ←List.length_map (f:=fun x:NV×Tr=>x.2),hK1];exact hsm
 obtain⟨R,hR⟩:=named (rnE t)
 have HR7:Hid (¬(1≤n.kind∧n.kind≤18)→R=7):=fun hh=>by rw[hR];unfold rnE;rw[k0,if_pos hh]
 have HR1:Hid (1≤n.kind∧n.kind≤18→fr6 n t.kids=true→R=1):=fun hh hf=>by
  rw[fr6_is h hh]at hf
  rw[hR];unfold rnE;rw[k0,if_neg (by simpa using hh),if_pos (by simpa only[Bool.not_eq_true']using hf)]
 have HRo:Hid (1≤n.kind∧n.kind≤18→fr6 n t.kids=false→R=if checkE t.set≠0 then checkE t.set else if n.kind=12 then repE t else 0):=fun hh hf=>by
  rw[fr6_is h hh]at hf
  rw[hR];unfold rnE;rw[k0,if_neg (by simpa using hh),if_neg (by rw[Bool.not_eq_false']at hf;rw[hf];simp)]
 have HE:Hid (repE t=if ¬(0≤n.least∧n.least≤100)then 3 else if ¬(n.most= -1∨(n.least≤n.most∧n.most≤100))then 3 else if ¬(1≤n.way∧n.way≤3)then 7 else 0):=by show _=_;unfold repE;rw[k2,k3,k4]
 have HSl:Hid (fr6 n t.kids=false→n.kind≠2→checkE t.set=0):=fun hf h2=>by
  have:n.sl=0:=by
   unfold fr6 fr5 fr4 fr3 fr2 at hf
   simp at hf
   have:=hf.1.1.1.1.2
   omega
  have h0:=hr.len
  have:t.set=[]:=List.eq_nil_of_length_eq_zero (by omega)
  rw[this];rfl
 rw[← hR]
 have HKO:=hide (fun W=>kidsOf_any n.kind W)
 obtain⟨le,hle⟩:=named ((kidsL n.kind).1)
 obtain⟨mo,hmo⟩:=named ((kidsL n.kind).2)
 rw[← hle, ←hmo]at HKO
 have HF1:Hid (fr1 n=(decide ((n.kl:Int)<le)||(decide (0≤mo)&&decide (mo<(n.kl:Int))))):=by show _=_;unfold fr1;rw[hle,hmo]
 simp only[nvO]at hw1
 clear h hb1 hX1 k0 k1 k2 k3 k4 k5 hr hK1 hK2 hK3 hK4 hR hle hmo
 have HF5:=hide hf5
 have HF6:=hide hf6
 have hE:=HR1.out hkd hf6
 subst hE
 have HG:=hide (fr6_no (ks:=[]) (by unfold fr6;rw[hf5];rfl))
 have g1:¬n.kind<1:=by omega
 have g2:¬18<n.kind:=by omega
 clear hkd HR7 HR1 HRo HE HSl hf5 hf6
 go_enter func46,ntmps46
 go_upto_region 1 with fail
 rw[← hw1]
 clear hw1
 go_wp2_with fail
 refine(HKO.out w1).mono ?_
 rintro e w' ⟨rfl,hh⟩
 subst hh
 clear HKO
 go_upto_region 4 with fail
 go_cut [5]from 22 (fun s wc=>s=.bool false∧wc=w')
 case first=>
  have hF:=HG.out.1
  rw[HF1.out]at hF
  simp at hF
  have h1:¬(n.kl:Int)<le:=by omega
  by_cases h2:0≤mo
  ·have h3:¬mo<(n.kl:Int):=by omega
   clear hF
   go_wp2_with fail
   go_meet
   case rel=>exact⟨by simp<;>omega,rfl⟩
  ·clear hF
   go_wp2_with fail
   go_meet
   case rel=>exact⟨rfl,rfl⟩
 case rest=>
  obtain⟨rfl,hh⟩:=hcut
  subst hh
  clear HF1
  go_upto_if 40 with fail
  go_cut [5]from 22 (fun s wc2=>s=.bool false∧wc2=wc)
  case first=>
   by_cases h2:n.kind=2
   ·have b2:(n.kind==2)=true:=by simpa using h2
    have c2:(n.kind !=2)=false:=by simpa using h2
    clear h2
    go_wp2_with fail
    go_meet
    case rel=>exact⟨rfl,rfl⟩
   ·have b2:(n.kind==2)=false:=by simpa using h2
    have c2:(n.kind !=2)=true:=by simpa using h2
    have hs2:¬(0:Int)<(n.sl:Int):=by have:=HG.out.2.1 h2;omega
    clear h2
    go_wp2_with fail
    go_meet
    case rel=>exact⟨by simp<;>omega,rfl⟩
  case rest=>
   obtain⟨rfl,hh⟩:=hcut
   subst hh
   go_upto_if 50 with fail
   go_cut [5]from 22 (fun s wc2=>s=.bool false∧wc2=wc)
   case first=>
    by_cases h12:n.kind=12
    ·have b12:(n.kind==12)=true:=by simpa using h12
     have c12:(n.kind !=12)=false:=by simpa using h12
     clear h12
     go_wp2_with fail
     go_meet
     case rel=>exact⟨rfl,rfl⟩
    ·have b12:(n.kind==12)=false:=by simpa using h12
     have c12:(n.kind !=12)=true:=by simpa using h12
     have bl:(n.least==0)=true:=by have:=(HG.out.2.2.1 h12).1;simpa using this
     have cl:(n.least !=0)=false:=by have:=(HG.out.2.2.1 h12).1;simpa using this
     have bm:(n.most==0)=true:=by have:=(HG.out.2.2.1 h12).2.1;simpa using this
     have cm:(n.most !=0)=false:=by have:=(HG.out.2.2.1 h12).2.1;simpa using this
     have bw:(n.way==0)=true:=by have:=(HG.out.2.2.1 h12).2.2;simpa using this
     have cw:(n.way !=0)=false:=by have:=(HG.out.2.2.1 h12).2.2;simpa using this
     clear h12
     go_wp2_with fail
     go_meet
     case rel=>exact⟨rfl,rfl⟩
   case rest=>
    obtain⟨rfl,hh⟩:=hcut
    subst hh
    go_upto_region 9 with fail
    go_cut [74]from 22 (fun s wc2=>s=.bool (decide (n.kind≠11)&&decide (n.kind≠18))∧wc2=wc)
    case first=>
     by_cases h11:n.kind=11
     ·have b11:(n.kind==11)=true:=by simpa using h11
      have c11:(n.kind !=11)=false:=by simpa using h11
      have hE:Hid ((decide (n.kind≠11)&&decide (n.kind≠18))=false):=by show _=_;simp[h11]
      clear h11
      go_wp2_with fail
      go_meet
      case rel=>exact⟨by first|(rw[hE.out];done)|(rw[hE.out];simp;omega),rfl⟩
     ·have b11:(n.kind==11)=false:=by simpa using h11
      have c11:(n.kind !=11)=true:=by simpa using h11
      by_cases h18:n.kind=18
      ·have b18:(n.kind==18)=true:=by simpa using h18
       have c18:(n.kind !=18)=false:=by simpa using h18
       have hE:Hid ((decide (n.kind≠11)&&decide (n.kind≠18))=false):=by show _=_;simp[h18]
       clear h11 h18
       go_wp2_with fail
       go_meet
       case rel=>exact⟨by first|(rw[hE.out];done)|(rw[hE.out];simp;omega),rfl⟩
      ·have b18:(n.kind==18)=false:=by simpa using h18
       have c18:(n.kind !=18)=true:=by simpa using h18
       have hE:Hid ((decide (n.kind≠11)&&decide (n.kind≠18))=true):=by show _=_;simp[h11,h18]
       clear h11 h18
       go_wp2_with fail
       go_meet
       case rel=>exact⟨by first|(rw[hE.out];done)|(rw[hE.out];simp;omega),rfl⟩
    case rest=>
     obtain⟨rfl,hh⟩:=hcut
     subst hh
     go_upto_if 74 with fail
     go_cut [5]from 22 (fun s wc2=>s=.bool false∧wc2=wc)
     case first=>
      cases hq:(decide (n.kind≠11)&&decide (n.kind≠18))with
      |false=>
       clear hq
       go_wp2_with fail
       go_meet
       case rel=>exact⟨rfl,rfl⟩
      |true=>
       have hn:n.num=0:=HG.out.2.2.2.1 hq
       have bn:(n.num==0)=true:=by simpa using hn
       have cn:(n.num !=0)=false:=by simpa using hn
       clear hq hn
       go_wp2_with fail
       go_meet
       case rel=>exact⟨rfl,rfl⟩
     case rest=>
      obtain⟨rfl,hh⟩:=hcut
      subst hh
      go_upto_if 83 with fail
      go_cut [5]from 22 (fun s wc2=>s=.bool false∧wc2=wc)
      case first=>
       by_cases h18:n.kind=18
       ·have b18:(n.kind==18)=true:=by simpa using h18
        have c18:(n.kind !=18)=false:=by simpa using h18
        clear h18
        go_wp2_with fail
        go_meet
        case rel=>exact⟨rfl,rfl⟩
       ·have b18:(n.kind==18)=false:=by simpa using h18
        have c18:(n.kind !=18)=true:=by simpa using h18
        have hfo:n.fold=false:=HG.out.2.2.2.2.1 h18
        rw[hfo]at d7
        clear h18 hfo
        go_wp2_with fail
        go_meet
        case rel=>exact⟨rfl,rfl⟩
      case rest=>
       obtain⟨rfl,hh⟩:=hcut
       subst hh
       clear d1 d3 d4 d5 d6 d7 g1 g2
       go_wp2
       go_loopw [5,6] (fun f c wr=>∃(j:Nat),j≤K.length∧c=.int .i64 j∧f=.bool (fr5 n||(t.kids.take j).any (fun u=>frK n.kind u.kind))∧wr=wc) (fun _ c _=>K.length - (intOf c).toNat)
       case atStart=>exact⟨0,Nat.zero_le _,rfl,by rw[HF5.out];simp,rfl⟩
       case round=>
        obtain⟨j,hjl,rfl,rfl,hwr⟩:=hrel
        subst hwr
        by_cases hlt:j<K.length
        ·rcases HKc.out with h0|⟨x,hx,hcl⟩
         ·exact absurd h0 (by omega)
         ·have hc0:=(hcl j hlt).c0
          have hkj:t.kids[j]? =some K[j].2:=by rw[← HKm.out,List.getElem?_map,List.getElem?_eq_getElem hlt];rfl
          have hkk:K[j].1.kind=K[j].2.kind:=(HK2.out K[j] (List.getElem_mem _)).open.1.symm
          have HTk:Hid ((t.kids.take (j+1)).any (fun u=>frK n.kind u.kind)=((t.kids.take j).any (fun u=>frK n.kind u.kind)||frK n.kind K[j].1.kind)):=by
           show _=_
           rw[List.take_add_one,hkj,hkk];simp
          obtain⟨kk,hkq⟩:=named (K[j].1.kind)
          rw[← hkq]at hc0 HTk
          obtain⟨f,hfd⟩:=named ((fr5 n||(t.kids.take j).any (fun u=>frK n.kind u.kind)))
          have HFn:Hid ((fr5 n||(t.kids.take (j+1)).any (fun u=>frK n.kind u.kind))=(f||frK n.kind kk)):=by show _=_;rw[HTk.out,hfd,Bool.or_assoc]
          rw[← hfd]
          have e1:(j:Int)<(n.kl:Int):=by have:=HKl.out;omega
          have e2:(0:Int)≤(j:Int):=by omega
          have e3:IntKind.i64.wrap ((j:Int)+1)=(j:Int)+1:=by have:=HKl.out;rw[IntKind.wrap_i64];omega
          rw[hx]at d2
          clear hcl hx hkj hkk hkq hfd HTk
          cases f with
          |true=>
           go_wp2
           go_roundw
           case rel=>exact⟨j+1,by omega,by go_num,by rw[HFn.out];rfl,trivial⟩
           case measure=>simp[intOf];omega
          |false=>
           have HFm:Hid ((fr5 n||(t.kids.take (j+1)).any (fun u=>frK n.kind u.kind))=frK n.kind kk):=by show _=_;rw[HFn.out];rfl
           clear HFn
           by_cases h9:n.kind=9
           ·have b9:(n.kind==9)=true:=by simpa using h9
            have c9:(n.kind !=9)=false:=by simpa using h9
            by_cases q9:kk=9
            ·have p9:(kk==9)=true:=by simpa using q9
             have r9:(kk !=9)=false:=by simpa using q9
             have hE:Hid (frK n.kind kk=true):=by show _=_;unfold frK;simp[*]
             clear h9 q9
             go_wp2
             go_roundw
             case rel=>exact⟨j+1,by omega,by go_num,by rw[HFm.out,hE.out],trivial⟩
             case measure=>simp[intOf];omega
            ·have p9:(kk==9)=false:=by simpa using q9
             have r9:(kk !=9)=true:=by simpa using q9
             by_cases q1:kk=1
             ·have p1:(kk==1)=true:=by simpa using q1
              have r1:(kk !=1)=false:=by simpa using q1
              have hE:Hid (frK n.kind kk=true):=by show _=_;unfold frK;simp[*]
              clear h9 q9 q1
              go_wp2
              go_roundw
              case rel=>exact⟨j+1,by omega,by go_num,by rw[HFm.out,hE.out],trivial⟩
              case measure=>simp[intOf];omega
             ·have p1:(kk==1)=false:=by simpa using q1
              have r1:(kk !=1)=true:=by simpa using q1
              have b10:(n.kind==10)=false:=by rw[h9];rfl
              have hE:Hid (frK n.kind kk=false):=by show _=_;unfold frK;rw[h9];simp[q9,q1]
              clear h9 q9 q1
              go_wp2
              go_roundw
              case rel=>exact⟨j+1,by omega,by go_num,by rw[HFm.out,hE.out],trivial⟩
              case measure=>simp[intOf];omega
           ·have b9:(n.kind==9)=false:=by simpa using h9
            have c9:(n.kind !=9)=true:=by simpa using h9
            by_cases h10:n.kind=10
            ·have b10:(n.kind==10)=true:=by simpa using h10
             have c10:(n.kind !=10)=false:=by simpa using h10
             by_cases q10:kk=10
             ·have p10:(kk==10)=true:=by simpa using q10
              have r10:(kk !=10)=false:=by simpa using q10
              have hE:Hid (frK n.kind kk=true):=by show _=_;unfold frK;simp[*]
              clear h9 h10 q10
              go_wp2
              go_roundw
              case rel=>exact⟨j+1,by omega,by go_num,by rw[HFm.out,hE.out],trivial⟩
              case measure=>simp[intOf];omega
             ·have p10:(kk==10)=false:=by simpa using q10
              have r10:(kk !=10)=true:=by simpa using q10
              have hE:Hid (frK n.kind kk=false):=by show _=_;unfold frK;rw[h10];simp[q10]
              clear h9 h10 q10
              go_wp2
              go_roundw
              case rel=>exact⟨j+1,by omega,by go_num,by rw[HFm.out,hE.out],trivial⟩
              case measure=>simp[intOf];omega
            ·have b10:(n.kind==10)=false:=by simpa using h10
             have c10:(n.kind !=10)=true:=by simpa using h10
             have hE:Hid (frK n.kind kk=false):=by show _=_;unfold frK;simp[*]
             clear h9 h10
             go_wp2
             go_roundw
             case rel=>exact⟨j+1,by omega,by go_num,by rw[HFm.out,hE.out],trivial⟩
             case measure=>simp[intOf];omega
        ·have hj:j=K.length:=by omega
         have hF6:(fr5 n||(t.kids.take j).any (fun u=>frK n.kind u.kind))=fr6 n t.kids:=by
          rw[hj, ←List.length_map (f:=fun x:NV×Tr=>x.2),HKm.out,List.take_of_length_le (leR _)];rfl
         rw[hF6]
         have e1:¬(j:Int)<(n.kl:Int):=by have:=HKl.out;omega
         clear hj hF6
         obtain⟨d0,d1,d2',d3,d4,d5,d6,d7⟩:=nv_cells HX.out
         rw[HF6.out]
         go_wp2
         go_ret
         exact⟨rfl,HB1.out⟩
end Go.Proofs.YtfnndcbjklppeaaGreatDoor
