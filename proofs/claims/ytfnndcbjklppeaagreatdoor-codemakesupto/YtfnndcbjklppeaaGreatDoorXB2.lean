import Derived.Test.YtfnndcbjklppeaaGreatDoorVL2
import Derived.Test.YtfnndcbjklppeaaGreatDoorWA2
import Derived.Test.YtfnndcbjklppeaaGreatDoorXA2
import Derived.Deep.Cut
set_option linter.unusedVariables false
set_option maxHeartbeats 8000000
set_option maxRecDepth 100000
open Go.Proofs.Tryz
namespace Go.Proofs.YtfnndcbjklppeaaGreatDoor
open Go.RowKit
theorem q_betw(p a b:Int)(w:World):Calls prog 20 #[.int .i64 p,.int .i64 a,.int .i64 b] w fun e w'=>e=.returned (.bool (decide (a≤p∧p≤b)))∧w'=w:=by
 go_enter func20,ntmps20
 by_cases h1:a≤p
 ·by_cases h2:p≤b
  ·go_wp2
   go_ret
   exact⟨by simp[h1,h2],rfl⟩
  ·go_wp2
   go_ret
   exact⟨by simp[h2],rfl⟩
 ·go_wp2
  go_ret
  exact⟨by simp;omega,rfl⟩
def kidsL(k:Int):Int×Int:=if k=9∨k=10 then(2, -1)else if 11≤k∧k≤17 then(1,1)else(0,0)
theorem kidsOf_any(k:Int)(w:World):Calls prog 77 #[.int .i64 k] w fun e w'=>e=.returned (.tuple #[.int .i64 (kidsL k).1,.int .i64 (kidsL k).2])∧w'=w:=by
 by_cases h9:k=9
 ·subst h9
  go_enter func77,ntmps77
  go_wp2
  go_ret2
  exact⟨rfl,rfl⟩
 ·by_cases h10:k=10
  ·subst h10
   go_enter func77,ntmps77
   go_wp2
   go_ret2
   exact⟨rfl,rfl⟩
  ·have HB:=hide (q_betw k 11 17 w)
   have b9:(k==9)=false:=by simpa using h9
   have b10:(k==10)=false:=by simpa using h10
   by_cases hb:11≤k∧k≤17
   ·have e:decide (11≤k∧k≤17)=true:=by simpa using hb
    rw[e]at HB
    have hE:Hid (kidsL k=(1,1)):=by show _=_;unfold kidsL;rw[if_neg (by omega),if_pos hb]
    clear hb e
    go_enter func77,ntmps77
    go_wp2_with fail
    refine HB.out.mono ?_
    rintro e w' ⟨rfl,h⟩
    subst h
    go_wp2
    go_ret2
    exact⟨by rw[hE.out];rfl,rfl⟩
   ·have e:decide (11≤k∧k≤17)=false:=by simpa using hb
    rw[e]at HB
    have hE:Hid (kidsL k=(0,0)):=by show _=_;unfold kidsL;rw[if_neg (by omega),if_neg hb]
    clear hb e
    go_enter func77,ntmps77
    go_wp2_with fail
    refine HB.out.mono ?_
    rintro e w' ⟨rfl,h⟩
    subst h
    go_wp2
    go_ret2
    exact⟨by rw[hE.out];rfl,rfl⟩
def fr1(n:NV):Bool:=decide ((n.kl:Int)<(kidsL n.kind).1)||(decide (0≤(kidsL n.kind).2)&&decide ((kidsL n.kind).2<(n.kl:Int)))
def fr2(n:NV):Bool:=fr1 n||(decide (n.kind≠2)&&decide (0<n.sl))
def fr3(n:NV):Bool:=fr2 n||(decide (n.kind≠12)&&(decide (n.least≠0)||decide (n.most≠0)||decide (n.way≠0)))
def fr4(n:NV):Bool:=fr3 n||(decide (n.kind≠11)&&decide (n.kind≠18)&&decide (n.num≠0))
def fr5(n:NV):Bool:=fr4 n||(decide (n.kind≠18)&&n.fold)
def frK(k j:Int):Bool:=(decide (k=9)&&(decide (j=9)||decide (j=1)))||(decide (k=10)&&decide (j=10))
def fr6(n:NV)(ks:List Tr):Bool:=fr5 n||ks.any (fun u=>frK n.kind u.kind)
def rnE(t:Tr):Int:=
 if ¬(1≤t.kind∧t.kind≤18)then 7
 else if (kidsB t&&fieldsB t)=false then 1
 else if checkE t.set≠0 then checkE t.set
 else if t.kind=12 then repE t
 else 0
theorem any_frK(k:Int)(ks:List Tr):ks.any (fun u=>frK k u.kind)=((decide (k=9)&&(kidL ks 9||kidL ks 1))||(decide (k=10)&&kidL ks 10)):=by
 unfold kidL
 induction ks with
 |nil=>simp
 |cons u ks ih=>
  rw[List.any_cons,ih,List.any_cons,List.any_cons,List.any_cons]
  unfold frK
  have e:∀j:Int,(u.kind==j)=decide (u.kind=j):=fun j=>rfl
  rw[e 9,e 1,e 10]
  cases decide (k=9)<;>cases decide (k=10)<;>cases decide (u.kind=9)<;>cases decide (u.kind=1)<;>cases decide (u.kind=10)<;>simp
theorem fr6_is{n:NV}{t:Tr}{w:World}(h:NodeC w n t)(hk:1≤n.kind∧n.kind≤18):fr6 n t.kids=!(kidsB t&&fieldsB t):=by
 obtain⟨k0,k1,k2,k3,k4,k5,hr,vs,hkc, -⟩:=h.open
 have hkl:=hkc.len
 have hsl:=hr.len
 unfold fr6
 rw[any_frK]
 unfold fr5 fr4 fr3 fr2 fr1 kidsL kidsB fieldsB
 rw[k0,k1,k2,k3,k4,k5, ←hkl, ←hsl]
 clear hkl hsl k0 k1 k2 k3 k4 k5 hr hkc h
 obtain⟨a,ha⟩:=named (kidL t.kids 9)
 obtain⟨b,hb⟩:=named (kidL t.kids 1)
 obtain⟨c,hc⟩:=named (kidL t.kids 10)
 rw[← ha, ←hb, ←hc]
 clear ha hb hc
 obtain⟨kind,sa,sl,sc,ka,kl,kc,num,least,most,way,fold⟩:=n
 simp only at hk ⊢
 rw[Bool.eq_iff_iff]
 by_cases h9:kind=9
 ·subst h9;cases a<;>cases b<;>cases fold<;>simp<;>omega
 ·by_cases h10:kind=10
  ·subst h10;cases c<;>cases fold<;>simp<;>omega
  ·by_cases h11:11≤kind∧kind≤17
   ·rw [if_neg (by omega),if_pos h11,if_neg h9,if_neg h10,if_pos h11]
    cases fold<;>simp[h9,h10]<;>omega
   ·rw [if_neg (by omega),if_neg h11,if_neg h9,if_neg h10,if_neg h11]
    cases fold<;>simp[h9,h10]<;>omega
theorem fr6_no{n:NV}{ks:List Tr}(h:fr6 n ks=false):fr1 n=false∧(n.kind≠2→n.sl=0)∧(n.kind≠12→n.least=0∧n.most=0∧n.way=0)∧((decide (n.kind≠11)&&decide (n.kind≠18))=true→n.num=0)∧(n.kind≠18→n.fold=false)∧∀u∈ks,frK n.kind u.kind=false:=by
 unfold fr6 fr5 fr4 fr3 fr2 at h
 simp only[Bool.or_eq_false_iff,Bool.and_eq_false_iff,decide_eq_false_iff_not]at h
 obtain⟨⟨⟨⟨⟨h1,h2⟩,h3⟩,h4⟩,h5⟩,h6⟩:=h
 refine⟨h1,fun hh=>?_,fun hh=>?_,fun hh=>?_,fun hh=>?_,fun u hu=>?_⟩
 ·rcases h2 with h2|h2
  ·exact absurd hh h2
  ·omega
 ·rcases h3 with h3|h3
  ·exact absurd hh h3
  ·exact⟨by omega,by omega,by omega⟩
 ·simp only[Bool.and_eq_true,decide_eq_true_eq]at hh
  rcases h4 with(h4|h4)|h4
  ·exact absurd hh.1 h4
  ·exact absurd hh.2 h4
  ·omega
 ·rcases h5 with h5|h5
  ·exact absurd hh h5
  ·exact h5
 ·rw [List.any_eq_false]at h6
  simpa using h6 u hu
theorem rightNode_badA(n:NV)(t:Tr)(w:World)(h:NodeC w n t)(hsm:t.kids.length≤4611686018427387904)(hkd:1≤n.kind∧n.kind≤18)(hf5:fr5 n=true):Calls prog 46 #[nvV n] w fun e w'=>e=.returned (.int .i64 (rnE t))∧Below w.heap.size w w':=by
 have hb1:Below w.heap.size w (w.alloc (nvO n)):=allocB w _
 have HN:=hide h
 have HN1:=hide (h.keep hb1)
 obtain⟨k0,k1,k2,k3,k4,k5,hr, -⟩:=h.open
 obtain⟨K,hK1,hK2,hK3,hK4⟩:=kids_list h
 obtain⟨w1,hw1⟩:=named (w.alloc (nvO n))
 have hX1:w1.heap[w.heap.size]? =some (nvO n):=by rw[hw1];exact at_new _ _
 rw[← hw1]at hb1 HN1
 have HB1:=hide hb1
 have HX:=hide hX1
 have HS:=hide (fun W (hW:Below w.heap.size w W)=>checkSet_any _ _ W (hr.below hW))
 have HK2:=hide hK2
 have HKc:Hid (K.length=0∨∃x,n.ka=some x∧∀i (hi:i<K.length),NCells w1 (x.add (i*8)) K[i].1):=by
  rcases hK4 with h0|⟨x,hx,hc⟩
  ·exact .inl h0
  ·exact .inr ⟨x,hx,fun i hi=>(hc i hi).below hb1⟩
 have HKl:=hide hK3
 have HKm:=hide hK1
 obtain⟨d0,d1,d2,d3,d4,d5,d6,d7⟩:=nv_cells hX1
 have hkb:n.kl≤4611686018427387904:=by rw[hK3, ←List.length_map (f:=fun x:NV×Tr=>x.2),hK1];exact hsm
 obtain⟨R,hR⟩:=named (rnE t)
 have HR7:Hid (¬(1≤n.kind∧n.kind≤18)→R=7):=fun hh=>by rw[hR];unfold rnE;rw[k0,if_pos hh]
 have HR1:Hid (1≤n.kind∧n.kind≤18→fr6 n t.kids=true→R=1):=fun hh hf=>by
  rw[fr6_is h hh]at hf
  rw[hR];unfold rnE;rw[k0,if_neg (by simpa using hh),if_pos (by simpa only[Bool.not_eq_true']using hf)]
 have HRo:Hid (1≤n.kind∧n.kind≤18→fr6 n t.kids=false→R=if checkE t.set≠0 then checkE t.set else if n.kind=12 then repE t else 0):=fun hh hf=>by
  rw[fr6_is h hh]at hf
  rw[hR];unfold rnE;rw[k0,if_neg (by simpa using hh),if_neg (by rw[Bool.not_eq_false']at hf;rw[hf];simp)]
 have HE:Hid (repE t=if ¬(0≤n.least∧n.least≤100)then 3 else if ¬(n.most= -1∨(n.least≤n.most∧n.most≤100))then 3 else if ¬(1≤n.way∧n.way≤3)then 7 else 0):=by show _=_;unfold repE;rw[k2,k3,k4]
 have HSl:Hid (fr6 n t.kids=false→n.kind≠2→checkE t.set=0):=fun hf h2=>by
  have:n.sl=0:=by
   unfold fr6 fr5 fr4 fr3 fr2 at hf
   simp at hf
   have:=hf.1.1.1.1.2
   omega
  have h0:=hr.len
  have:t.set=[]:=List.eq_nil_of_length_eq_zero (by omega)
  rw[this];rfl
 rw[← hR]
 have HKO:=hide (fun W=>kidsOf_any n.kind W)
 obtain⟨le,hle⟩:=named ((kidsL n.kind).1)
 obtain⟨mo,hmo⟩:=named ((kidsL n.kind).2)
 rw[← hle, ←hmo]at HKO
 have HF1:Hid (fr1 n=(decide ((n.kl:Int)<le)||(decide (0≤mo)&&decide (mo<(n.kl:Int))))):=by show _=_;unfold fr1;rw[hle,hmo]
 simp only[nvO]at hw1
 clear h hb1 hX1 k0 k1 k2 k3 k4 k5 hr hK1 hK2 hK3 hK4 hR hle hmo
 have HF5:=hide hf5
 have hE:=HR1.out hkd (by unfold fr6;rw[hf5];rfl)
 subst hE
 have g1:¬n.kind<1:=by omega
 have g2:¬18<n.kind:=by omega
 clear hkd HR7 HR1 HRo HE HSl hf5
 go_enter func46,ntmps46
 go_upto_region 1 with fail
 rw[← hw1]
 clear hw1
 go_wp2_with fail
 refine(HKO.out w1).mono ?_
 rintro e w' ⟨rfl,hh⟩
 subst hh
 clear HKO
 go_upto_region 4 with fail
 go_cut [5]from 22 (fun s wc=>s=.bool (fr1 n)∧wc=w')
 case first=>
  by_cases h1:(n.kl:Int)<le
  ·have hE:Hid (fr1 n=true):=by show _=_;rw[HF1.out];simp[h1]
   go_wp2_with fail
   go_meet
   case rel=>exact⟨by rw[hE.out],rfl⟩
  ·by_cases h2:0≤mo
   ·by_cases h3:mo<(n.kl:Int)
    ·have hE:Hid (fr1 n=true):=by show _=_;rw[HF1.out];simp[h2,h3]
     go_wp2_with fail
     go_meet
     case rel=>exact⟨by rw[hE.out],rfl⟩
    ·have hE:Hid (fr1 n=false):=by show _=_;rw[HF1.out];simp;omega
     go_wp2_with fail
     go_meet
     case rel=>exact⟨by rw[hE.out],rfl⟩
   ·have hE:Hid (fr1 n=false):=by show _=_;rw[HF1.out];simp;omega
    go_wp2_with fail
    go_meet
    case rel=>exact⟨by rw[hE.out],rfl⟩
 case rest=>
  obtain⟨rfl,hh⟩:=hcut
  subst hh
  clear HF1
  go_upto_if 40 with fail
  go_cut [5]from 22 (fun s wc2=>s=.bool (fr2 n)∧wc2=wc)
  case first=>
   by_cases h2:n.kind=2
   ·have hE:Hid (fr2 n=fr1 n):=by show _=_;unfold fr2;simp[h2]
    have b2:(n.kind==2)=true:=by simpa using h2
    have c2:(n.kind !=2)=false:=by simpa using h2
    clear h2
    go_wp2_with fail
    go_meet
    case rel=>exact⟨by first|(rw[hE.out];done)|(rw[hE.out];simp;omega),rfl⟩
   ·have b2:(n.kind==2)=false:=by simpa using h2
    have c2:(n.kind !=2)=true:=by simpa using h2
    cases hf:fr1 n with
    |true=>
     have hE:Hid (fr2 n=true):=by show _=_;unfold fr2;simp[hf]
     clear h2
     go_wp2_with fail
     go_meet
     case rel=>exact⟨by first|(rw[hE.out];done)|(rw[hE.out];simp;omega),rfl⟩
    |false=>
     by_cases hs:0<n.sl
     ·have hE:Hid (fr2 n=true):=by show _=_;unfold fr2;simp[hf,hs,h2]
      have hs2:(0:Int)<(n.sl:Int):=by omega
      clear h2 hs
      go_wp2_with fail
      go_meet
      case rel=>exact⟨by first|(rw[hE.out];done)|(rw[hE.out];simp;omega),rfl⟩
     ·have hE:Hid (fr2 n=false):=by show _=_;unfold fr2;simp[hf];omega
      have hs2:¬(0:Int)<(n.sl:Int):=by omega
      clear h2 hs
      go_wp2_with fail
      go_meet
      case rel=>exact⟨by first|(rw[hE.out];done)|(rw[hE.out];simp;omega),rfl⟩
  case rest=>
   obtain⟨rfl,hh⟩:=hcut
   subst hh
   go_upto_if 50 with fail
   go_cut [5]from 22 (fun s wc2=>s=.bool (fr3 n)∧wc2=wc)
   case first=>
    by_cases h12:n.kind=12
    ·have hE:Hid (fr3 n=fr2 n):=by show _=_;unfold fr3;simp[h12]
     have b12:(n.kind==12)=true:=by simpa using h12
     have c12:(n.kind !=12)=false:=by simpa using h12
     clear h12
     go_wp2_with fail
     go_meet
     case rel=>exact⟨by first|(rw[hE.out];done)|(rw[hE.out];simp;omega),rfl⟩
    ·have b12:(n.kind==12)=false:=by simpa using h12
     have c12:(n.kind !=12)=true:=by simpa using h12
     cases hf:fr2 n with
     |true=>
      have hE:Hid (fr3 n=true):=by show _=_;unfold fr3;simp[hf]
      clear h12
      go_wp2_with fail
      go_meet
      case rel=>exact⟨by first|(rw[hE.out];done)|(rw[hE.out];simp;omega),rfl⟩
     |false=>
      by_cases hl:n.least=0
      ·have bl:(n.least==0)=true:=by simpa using hl
       have cl:(n.least !=0)=false:=by simpa using hl
       by_cases hm:n.most=0
       ·have bm:(n.most==0)=true:=by simpa using hm
        have cm:(n.most !=0)=false:=by simpa using hm
        by_cases hw:n.way=0
        ·have hE:Hid (fr3 n=false):=by show _=_;unfold fr3;simp[hf,hl,hm,hw]
         have bw:(n.way==0)=true:=by simpa using hw
         have cw:(n.way !=0)=false:=by simpa using hw
         clear h12 hl hm hw
         go_wp2_with fail
         go_meet
         case rel=>exact⟨by first|(rw[hE.out];done)|(rw[hE.out];simp;omega),rfl⟩
        ·have hE:Hid (fr3 n=true):=by show _=_;unfold fr3;simp[hf,h12,hw]
         have bw:(n.way==0)=false:=by simpa using hw
         have cw:(n.way !=0)=true:=by simpa using hw
         clear h12 hl hm hw
         go_wp2_with fail
         go_meet
         case rel=>exact⟨by first|(rw[hE.out];done)|(rw[hE.out];simp;omega),rfl⟩
       ·have hE:Hid (fr3 n=true):=by show _=_;unfold fr3;simp[hf,h12,hm]
        have bm:(n.most==0)=false:=by simpa using hm
        have cm:(n.most !=0)=true:=by simpa using hm
        clear h12 hl hm
        go_wp2_with fail
        go_meet
        case rel=>exact⟨by first|(rw[hE.out];done)|(rw[hE.out];simp;omega),rfl⟩
      ·have hE:Hid (fr3 n=true):=by show _=_;unfold fr3;simp[hf,h12,hl]
       have bl:(n.least==0)=false:=by simpa using hl
       have cl:(n.least !=0)=true:=by simpa using hl
       clear h12 hl
       go_wp2_with fail
       go_meet
       case rel=>exact⟨by first|(rw[hE.out];done)|(rw[hE.out];simp;omega),rfl⟩
   case rest=>
    obtain⟨rfl,hh⟩:=hcut
    subst hh
    go_upto_region 9 with fail
    go_cut [74]from 22 (fun s wc2=>s=.bool (decide (n.kind≠11)&&decide (n.kind≠18))∧wc2=wc)
    case first=>
     by_cases h11:n.kind=11
     ·have b11:(n.kind==11)=true:=by simpa using h11
      have c11:(n.kind !=11)=false:=by simpa using h11
      have hE:Hid ((decide (n.kind≠11)&&decide (n.kind≠18))=false):=by show _=_;simp[h11]
      clear h11
      go_wp2_with fail
      go_meet
      case rel=>exact⟨by first|(rw[hE.out];done)|(rw[hE.out];simp;omega),rfl⟩
     ·have b11:(n.kind==11)=false:=by simpa using h11
      have c11:(n.kind !=11)=true:=by simpa using h11
      by_cases h18:n.kind=18
      ·have b18:(n.kind==18)=true:=by simpa using h18
       have c18:(n.kind !=18)=false:=by simpa using h18
       have hE:Hid ((decide (n.kind≠11)&&decide (n.kind≠18))=false):=by show _=_;simp[h18]
       clear h11 h18
       go_wp2_with fail
       go_meet
       case rel=>exact⟨by first|(rw[hE.out];done)|(rw[hE.out];simp;omega),rfl⟩
      ·have b18:(n.kind==18)=false:=by simpa using h18
       have c18:(n.kind !=18)=true:=by simpa using h18
       have hE:Hid ((decide (n.kind≠11)&&decide (n.kind≠18))=true):=by show _=_;simp[h11,h18]
       clear h11 h18
       go_wp2_with fail
       go_meet
       case rel=>exact⟨by first|(rw[hE.out];done)|(rw[hE.out];simp;omega),rfl⟩
    case rest=>
     obtain⟨rfl,hh⟩:=hcut
     subst hh
     go_upto_if 74 with fail
     go_cut [5]from 22 (fun s wc2=>s=.bool (fr4 n)∧wc2=wc)
     case first=>
      cases hq:(decide (n.kind≠11)&&decide (n.kind≠18))with
      |false=>
       have hE:Hid (fr4 n=fr3 n):=by show _=_;unfold fr4;rw[hq];simp
       clear hq
       go_wp2_with fail
       go_meet
       case rel=>exact⟨by first|(rw[hE.out];done)|(rw[hE.out];simp;omega),rfl⟩
      |true=>
       cases hf:fr3 n with
       |true=>
        have hE:Hid (fr4 n=true):=by show _=_;unfold fr4;simp[hf]
        clear hq
        go_wp2_with fail
        go_meet
        case rel=>exact⟨by first|(rw[hE.out];done)|(rw[hE.out];simp;omega),rfl⟩
       |false=>
        by_cases hn:n.num=0
        ·have hE:Hid (fr4 n=false):=by show _=_;unfold fr4;simp[hf,hn]
         have bn:(n.num==0)=true:=by simpa using hn
         have cn:(n.num !=0)=false:=by simpa using hn
         clear hq hn
         go_wp2_with fail
         go_meet
         case rel=>exact⟨by first|(rw[hE.out];done)|(rw[hE.out];simp;omega),rfl⟩
        ·have hE:Hid (fr4 n=true):=by show _=_;unfold fr4;rw[hq];simp[hn]
         have bn:(n.num==0)=false:=by simpa using hn
         have cn:(n.num !=0)=true:=by simpa using hn
         clear hq hn
         go_wp2_with fail
         go_meet
         case rel=>exact⟨by first|(rw[hE.out];done)|(rw[hE.out];simp;omega),rfl⟩
     case rest=>
      obtain⟨rfl,hh⟩:=hcut
      subst hh
      go_upto_if 83 with fail
      go_cut [5]from 22 (fun s wc2=>s=.bool (fr5 n)∧wc2=wc)
      case first=>
       by_cases h18:n.kind=18
       ·have hE:Hid (fr5 n=fr4 n):=by show _=_;unfold fr5;simp[h18]
        have b18:(n.kind==18)=true:=by simpa using h18
        have c18:(n.kind !=18)=false:=by simpa using h18
        clear h18
        go_wp2_with fail
        go_meet
        case rel=>exact⟨by first|(rw[hE.out];done)|(rw[hE.out];simp;omega),rfl⟩
       ·have b18:(n.kind==18)=false:=by simpa using h18
        have c18:(n.kind !=18)=true:=by simpa using h18
        cases hf:fr4 n with
        |true=>
         have hE:Hid (fr5 n=true):=by show _=_;unfold fr5;simp[hf]
         clear h18
         go_wp2_with fail
         go_meet
         case rel=>exact⟨by first|(rw[hE.out];done)|(rw[hE.out];simp;omega),rfl⟩
        |false=>
         cases hfo:n.fold with
         |true=>
          have hE:Hid (fr5 n=true):=by show _=_;unfold fr5;simp[h18,hfo]
          rw[hfo]at d7
          clear h18 hfo
          go_wp2_with fail
          go_meet
          case rel=>exact⟨by first|(rw[hE.out];done)|(rw[hE.out];simp;omega),rfl⟩
         |false=>
          have hE:Hid (fr5 n=false):=by show _=_;unfold fr5;simp[hf,hfo]
          rw[hfo]at d7
          clear h18 hfo
          go_wp2_with fail
          go_meet
          case rel=>exact⟨by first|(rw[hE.out];done)|(rw[hE.out];simp;omega),rfl⟩
      case rest=>
       obtain⟨rfl,hh⟩:=hcut
       subst hh
       clear d1 d3 d4 d5 d6 d7 g1 g2
       go_wp2
       go_loopw [5,6] (fun f c wr=>∃(j:Nat),j≤K.length∧c=.int .i64 j∧f=.bool true∧wr=wc) (fun _ c _=>K.length - (intOf c).toNat)
       case atStart=>exact⟨0,Nat.zero_le _,rfl,by rw[HF5.out],rfl⟩
       case round=>
        obtain⟨j,hjl,rfl,rfl,hwr⟩:=hrel
        subst hwr
        by_cases hlt:j<K.length
        ·rcases HKc.out with h0|⟨x,hx,hcl⟩
         ·exact absurd h0 (by omega)
         ·have hc0:=(hcl j hlt).c0
          obtain⟨kk,hkq⟩:=named (K[j].1.kind)
          rw[← hkq]at hc0
          have e1:(j:Int)<(n.kl:Int):=by have:=HKl.out;omega
          have e2:(0:Int)≤(j:Int):=by omega
          have e3:IntKind.i64.wrap ((j:Int)+1)=(j:Int)+1:=by have:=HKl.out;rw[IntKind.wrap_i64];omega
          rw[hx]at d2
          clear hcl hx hkq
          go_wp2
          go_roundw
          case rel=>exact⟨j+1,by omega,by go_num,rfl,trivial⟩
          case measure=>simp[intOf];omega
        ·have e1:¬(j:Int)<(n.kl:Int):=by have:=HKl.out;omega
         obtain⟨d0,d1,d2',d3,d4,d5,d6,d7⟩:=nv_cells HX.out
         go_wp2
         go_ret
         exact⟨rfl,HB1.out⟩
end Go.Proofs.YtfnndcbjklppeaaGreatDoor
