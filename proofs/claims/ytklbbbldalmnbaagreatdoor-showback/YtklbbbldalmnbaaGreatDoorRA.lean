import Derived.Test.YtklbbbldalmnbaaGreatDoorMB
import Derived.Test.YtklbbbldalmnbaaGreatDoorKQ
import Derived.Deep.QuietTactic
import Derived.BigQuiet
import Derived.Deep.Cut
import Derived.StillTailTactics
import Derived.Deep.RegionLaw
import Derived.Deep.AppendLies
import Derived.Defers
import Derived.Recover
import Derived.RegionTactic
import Derived.Deep.RegionWith
set_option maxHeartbeats 8000000
set_option maxRecDepth 100000
set_option linter.unusedVariables false
open Go.Proofs.Tryz
namespace Go.Proofs.YtklbbbldalmnbaaGreatDoor.TR
open Go.RowKit
def bK(k:Int):Ending:=.panicked [{ v:=.iface 29 (.int .i64 k),recovered:=false }]
theorem xu(b:Bool)(k:Int)(w:World):Calls prog 53 #[.bool b,.int .i64 k] w fun e w'=>e=(if b then .returned (.tuple #[])else bK k)/\w=w':=by
 cases b with
 |true=>
  simp only[if_true]
  go_enter func53,ntmps53
  go_wp2
  go_end0
  exact⟨rfl,rfl⟩
 |false=>
  simp only[bK,Bool.false_eq_true,if_false]
  go_enter func53,ntmps53
  go_wp2
  exact⟨rfl,rfl,rfl⟩
def kt(ts:List Tr)(k:Int):Bool:=ts.any (fun u=>u.kind==k)
theorem B3{ts:List Tr}{j:Nat}{k:Int}(hj:j<ts.length):kt (ts.drop j) k=((ts[j].kind==k)||kt (ts.drop (j+1)) k):=by
 rw[List.drop_eq_getElem_cons hj];rfl
theorem zj(n:NV)(t:Tr)(k:Int)(w:World)(h:aV w n t):Calls prog 68 #[cz n,.int .i64 k] w fun e w'=>e=.returned (.bool (kt t.kids k))/\Below w.heap.size w w':=by
 obtain⟨-, -, -, -, -, -, -,vs,hk,hkids⟩:=h.open
 obtain⟨ks,hks⟩:∃ks,ks=t.kids:=⟨_,rfl⟩
 have HK:Hid (bS w n.ka n.kl n.kc ks.length vs):=by show bS _ _ _ _ _ _;rw[hks];exact hk
 have HKL:Hid (n.kl=ks.length):=HK.o.len
 have HKd:Hid (∀j (hj:j<ks.length),(vs j).kind=ks[j].kind):=by subst hks;exact fun j hj=>(hkids j hj).open.1.symm
 rw[<- hks]
 have hb:Below w.heap.size w (w.alloc (aG n)):=(J _ _).alloc (U _) _
 obtain⟨w1,hw1⟩:∃w1,w1=w.alloc (aG n):=⟨_,rfl⟩
 have hbox:w1.heap[w.heap.size]? =some (aG n):=by rw[hw1];exact aj _ _
 rw[<- hw1]at hb
 have HB:=I hb
 obtain⟨d0,d1,d2,d3,d4,d5,d6,d7⟩:=ak hbox
 simp only[aG]at hw1
 obtain⟨A,hA⟩:∃A,A=kt ks k:=⟨_,rfl⟩
 have HA:=I hA
 rw[<- hA]
 clear h hk hkids hks hbox hb hA
 go_enter func68,ntmps68
 go_wp2
 rw[<- hw1]
 clear hw1 d0 d1 d2 d3 d4 d5 d6 d7
 go_loopw [10] (fun t wr=>∃(j:Nat),j<=ks.length/\t=.int .i64 j/\kt (ks.drop j) k=A/\Below w.heap.size w wr) (fun t _=>ks.length - (intOf t).toNat)
 case atStart=>exact⟨0,Nat.zero_le _,rfl,HA.o.symm,HB.o⟩
 case round=>
  obtain⟨j,hj,rfl,hE,hb⟩:=hrel
  have HE:=I hE
  have HB2:=I hb
  obtain⟨w2,hw2⟩:∃w2,w2=wr:=⟨_,rfl⟩
  subst hw2
  clear hb HB hE
  by_cases hlt:j<ks.length
  ·have e2:(j:Int)<(n.kl:Int):=by have:=HKL.o;omega
   have e4:(0:Int)<=(j:Int):=by omega
   rcases HK.o with⟨_,_,_,h0⟩|⟨x,hx,hkk,hmx,hcl⟩
   ·exact absurd h0 (by omega)
   ·obtain ⟨d0,d1,d2,d3,d4,d5,d6,d7⟩:=(hcl j hlt).below HB2.o
    have HD:=I (B3 (k:=k) hlt)
    have hkj:=HKd.o j hlt
    have HB3:Hid (Below w.heap.size w (w2.alloc (aG (vs j)))):=HB2.o.alloc HB2.o.size _
    have hjw:IntKind.i64.wrap ((j:Int)+1)=(j:Int)+1:=by rw[IntKind.wrap_i64];omega
    rw[hx]
    cases hq:((vs j).kind==k)with
    |true=>
     have hF:Hid (A=true):=by show _=_;rw[<- HE.o,HD.o, <-hkj,hq];rfl
     clear hcl hx hkk hkj
     go_wp2
     go_ret
     exact⟨by rw[hF.o];rfl,HB3.o⟩
    |false=>
     have hF:Hid (kt (ks.drop (j+1)) k=A):=by show _=_;rw[<- HE.o,HD.o, <-hkj,hq];rfl
     clear hcl hx hkk hkj
     go_wp2
     go_roundw
     case rel=>exact⟨j+1,by omega,by go_num,hF.o,HB3.o⟩
     case measure=>simp[intOf];omega
  ·have e2:¬(j:Int)<(n.kl:Int):=by have:=HKL.o;omega
   have hF:Hid (A=false):=by
    show _=_
    rw[<- HE.o,List.drop_eq_nil_of_le (by omega)];rfl
   go_wp2
   go_ret
   exact⟨by rw[hF.o];rfl,HB2.o⟩
def cK(t:Tr):Bool:=
 if t.kind=9 then(decide (2<=t.kids.length)&&!kt t.kids 9)&&!kt t.kids 1
 else if t.kind=10 then decide (2<=t.kids.length)&&!kt t.kids 10
 else if 11<=t.kind/\t.kind<=17 then decide (t.kids.length=1)
 else decide (t.kids.length=0)
theorem cM(n:NV)(t:Tr)(w:World)(h:aV w n t):Calls prog 54 #[cz n] w fun e w'=>e=.returned (.bool (cK t))/\Below w.heap.size w w':=by
 obtain⟨hk0, -, -, -, -, -, -,vs,hk, -⟩:=h.open
 have hkl:=hk.len
 have hb:Below w.heap.size w (w.alloc (aG n)):=(J _ _).alloc (U _) _
 have HC:=I (fun W (hW:Below w.heap.size w W) k=>zj n t k W (h.ar hW))
 obtain⟨w1,hw1⟩:∃w1,w1=w.alloc (aG n):=⟨_,rfl⟩
 have hbox:w1.heap[w.heap.size]? =some (aG n):=by rw[hw1];exact aj _ _
 rw[<- hw1]at hb
 have HB:=I hb
 have HX:=I hbox
 obtain⟨d0,d1,d2,d3,d4,d5,d6,d7⟩:=ak hbox
 simp only[aG]at hw1
 have hE:cK t=(if n.kind=9 then(decide (2<=n.kl)&&!kt t.kids 9)&&!kt t.kids 1 else if n.kind=10 then decide (2<=n.kl)&&!kt t.kids 10 else if 11<=n.kind/\n.kind<=17 then decide (n.kl=1)else decide (n.kl=0)):=by unfold cK;rw[hk0,hkl]
 have HE:=I hE
 obtain⟨A,hA⟩:∃A,A=cK t:=⟨_,rfl⟩
 have HA:=I hA
 rw[<- hA]
 obtain⟨f9,hf9⟩:∃f,f=kt t.kids 9:=⟨_,rfl⟩
 obtain⟨f1,hf1⟩:∃f,f=kt t.kids 1:=⟨_,rfl⟩
 obtain⟨f10,hf10⟩:∃f,f=kt t.kids 10:=⟨_,rfl⟩
 have HC9:Hid (∀W,Below w.heap.size w W->Calls prog 68 #[cz n,.int .i64 9] W fun e w'=>e=.returned (.bool f9)/\Below W.heap.size W w'):=fun W hW=>by rw[hf9];exact HC.o W hW 9
 have HC1:Hid (∀W,Below w.heap.size w W->Calls prog 68 #[cz n,.int .i64 1] W fun e w'=>e=.returned (.bool f1)/\Below W.heap.size W w'):=fun W hW=>by rw[hf1];exact HC.o W hW 1
 have HC10:Hid (∀W,Below w.heap.size w W->Calls prog 68 #[cz n,.int .i64 10] W fun e w'=>e=.returned (.bool f10)/\Below W.heap.size W w'):=fun W hW=>by rw[hf10];exact HC.o W hW 10
 rw[<- hf9, <-hf1, <-hf10]at HE
 clear h hk hkl hk0 hE hA hbox hb HC hf9 hf1 hf10
 by_cases h9:n.kind=9
 ·have hb9:(n.kind==9)=true:=by simpa using h9
  by_cases hl:2<=n.kl
  ·have e1:(2:Int)<=(n.kl:Int):=by omega
   have hF:Hid (A=(!f9&&!f1)):=by show _=_;rw[HA.o,HE.o,if_pos h9,decide_eq_true hl];rfl
   clear h9 hl
   cases f9 with
   |true=>
    go_enter func54,ntmps54
    go_wp2_with fail
    rw[<- hw1]
    clear hw1
    refine(HC9.o w1 HB.o).mono ?_
    rintro e w2 ⟨rfl,hb2⟩
    have HB2:=I (HB.o.trans (hb2.mono HB.o.size))
    clear hb2 d0 d1 d2 d3 d4 d5 d6 d7
    go_wp2
    go_ret
    exact⟨by rw[hF.o];rfl,HB2.o⟩
   |false=>
    go_enter func54,ntmps54
    go_wp2_with fail
    rw[<- hw1]
    clear hw1
    refine(HC9.o w1 HB.o).mono ?_
    rintro e w2 ⟨rfl,hb2⟩
    have HB2:=I (HB.o.trans (hb2.mono HB.o.size))
    obtain⟨b0,b1,b2,b3,b4,b5,b6,b7⟩:=(ak HX.o).below hb2
    clear hb2 d0 d1 d2 d3 d4 d5 d6 d7
    go_wp2_with fail
    refine(HC1.o w2 HB2.o).mono ?_
    rintro e w3 ⟨rfl,hb3⟩
    have HB3:=I (HB2.o.trans (hb3.mono HB2.o.size))
    clear hb3 b0 b1 b2 b3 b4 b5 b6 b7
    go_wp2
    go_ret
    exact⟨by rw[hF.o];cases f1<;>rfl,HB3.o⟩
  ·have e1:¬(2:Int)<=(n.kl:Int):=by omega
   have hF:Hid (A=false):=by show _=_;rw[HA.o,HE.o,if_pos h9,decide_eq_false hl];rfl
   clear h9 hl
   go_enter func54,ntmps54
   go_wp2
   go_ret
   exact⟨by rw[hF.o];rfl,by rw[<- hw1];exact HB.o⟩
 ·have hb9:(n.kind==9)=false:=by simpa using h9
  by_cases h10:n.kind=10
  ·have hb10:(n.kind==10)=true:=by simpa using h10
   by_cases hl:2<=n.kl
   ·have e1:(2:Int)<=(n.kl:Int):=by omega
    have hF:Hid (A=!f10):=by show _=_;rw[HA.o,HE.o,if_neg h9,if_pos h10,decide_eq_true hl];rfl
    clear h9 hl h10
    go_enter func54,ntmps54
    go_wp2_with fail
    rw[<- hw1]
    clear hw1
    refine(HC10.o w1 HB.o).mono ?_
    rintro e w2 ⟨rfl,hb2⟩
    have HB2:=I (HB.o.trans (hb2.mono HB.o.size))
    clear hb2 d0 d1 d2 d3 d4 d5 d6 d7
    go_wp2
    go_ret
    exact⟨by rw[hF.o];cases f10<;>rfl,HB2.o⟩
   ·have e1:¬(2:Int)<=(n.kl:Int):=by omega
    have hF:Hid (A=false):=by show _=_;rw[HA.o,HE.o,if_neg h9,if_pos h10,decide_eq_false hl];rfl
    clear h9 hl h10
    go_enter func54,ntmps54
    go_wp2
    go_ret
    exact⟨by rw[hF.o];rfl,by rw[<- hw1];exact HB.o⟩
  ·have hb10:(n.kind==10)=false:=by simpa using h10
   by_cases h11:11<=n.kind/\n.kind<=17
   ·have hF:Hid (A=decide (n.kl=1)):=by show _=_;rw[HA.o,HE.o,if_neg h9,if_neg h10,if_pos h11]
    obtain⟨g1,g2⟩:=h11
    clear h9 h10
    go_enter func54,ntmps54
    go_wp2
    all_goals go_ret
    all_goals exact⟨by rw[hF.o];exact bD (by rw[Bool.eq_iff_iff];simp<;>omega),by rw[<- hw1];exact HB.o⟩
   ·have hF:Hid (A=decide (n.kl=0)):=by show _=_;rw[HA.o,HE.o,if_neg h9,if_neg h10,if_neg h11]
    by_cases g1:11<=n.kind
    ·have g2:¬n.kind<=17:=by omega
     clear h9 h10 h11
     go_enter func54,ntmps54
     go_wp2
     all_goals go_ret
     all_goals exact⟨by rw[hF.o];exact bD (by rw[Bool.eq_iff_iff];simp<;>omega),by rw[<- hw1];exact HB.o⟩
    ·clear h9 h10 h11
     go_enter func54,ntmps54
     go_wp2
     all_goals go_ret
     all_goals exact⟨by rw[hF.o];exact bD (by rw[Bool.eq_iff_iff];simp<;>omega),by rw[<- hw1];exact HB.o⟩
def bO(t:Tr):Bool:=
 (decide (t.kind=2)||decide (t.set.length=0))&&(decide (t.kind=11)||decide (t.kind=18)||decide (t.num=0))&&(decide (t.kind=12)||decide (t.least=0))&&(decide (t.kind=12)||decide (t.an=0))&&(decide (t.kind=12)||decide (t.bB=0))&&(decide (t.kind=18)||!t.fold)
theorem _root_.Go.Proofs.YtklbbbldalmnbaaGreatDoor.Reads.len{w:World}{a:Option Addr}{l c:Nat}{L:RL}(h:Reads w (.slice a l c) L):l=L.length:=by
 rcases h with⟨h1,rfl⟩|⟨x,c,h1,h2⟩
 ·cases h1;rfl
 ·cases h1;rfl
theorem cw(n:NV)(t:Tr)(w:World)(h:aV w n t):Calls prog 55 #[cz n] w fun e w'=>e=.returned (.bool (bO t))/\Below w.heap.size w w':=by
 obtain⟨hk0,k1,k2,k3,k4,k5,hr, -⟩:=h.open
 have hsl:=hr.len
 have hb:Below w.heap.size w (w.alloc (aG n)):=(J _ _).alloc (U _) _
 obtain⟨w1,hw1⟩:∃w1,w1=w.alloc (aG n):=⟨_,rfl⟩
 have hbox:w1.heap[w.heap.size]? =some (aG n):=by rw[hw1];exact aj _ _
 rw[<- hw1]at hb
 have HB:=I hb
 obtain⟨d0,d1,d2,d3,d4,d5,d6,d7⟩:=ak hbox
 have fz:∀o,w1.frozen? ⟨w.heap.size,o,none⟩=false:=fun o=>by simp[World.frozen?,hbox]
 simp only[aG]at hw1
 have HE:Hid (bO t=((decide (n.kind=2)||decide (n.sl=0))&&(decide (n.kind=11)||decide (n.kind=18)||decide (n.num=0))&&(decide (n.kind=12)||decide (n.least=0))&&(decide (n.kind=12)||decide (n.an=0))&&(decide (n.kind=12)||decide (n.bB=0))&&(decide (n.kind=18)||!n.fold))):=by show _=_;unfold bO;rw[hk0,k1,k2,k3,k4,k5,hsl]
 obtain⟨A,hA⟩:∃A,A=bO t:=⟨_,rfl⟩
 rw[<- hA]at HE |-
 obtain⟨fo,hfo⟩:∃fo,fo=n.fold:=⟨_,rfl⟩
 rw[<- hfo]at d7 HE hw1
 have hvn:cz n=.agg #[.int .i64 n.kind,.slice n.sa n.sl n.sc,.slice n.ka n.kl n.kc,.int .i64 n.num,.int .i64 n.least,.int .i64 n.an,.int .i64 n.bB,.bool fo]:=by rw[hfo]
 rw[hvn]
 clear h hr hsl hk0 k1 k2 k3 k4 k5 hA hbox hb hfo hvn
 by_cases h2:n.kind=2
 ·have hF:Hid (A=(decide (n.num=0)&&decide (n.least=0)&&decide (n.an=0)&&decide (n.bB=0)&&!fo)):=by
   show _=_
   rw[HE.o]
   simp only[decide_eq_true h2,(decide_eq_false (by omega):decide (n.kind=11)=false),(decide_eq_false (by omega):decide (n.kind=12)=false),(decide_eq_false (by omega):decide (n.kind=18)=false),Bool.true_or,Bool.false_or,Bool.true_and,Bool.or_false]
  have b2:(n.kind==2)=true:=by simpa using h2
  clear h2 HE
  cases fo with
  |true=>
   go_enter func55,ntmps55
   go_wp2
   all_goals go_ret
   all_goals exact⟨by rw[hF.o];exact bD (by rw[Bool.eq_iff_iff];simp<;>omega),(J _ _).alloc (U _) _⟩
  |false=>
   go_enter func55,ntmps55
   go_wp2
   all_goals go_ret
   all_goals exact⟨by rw[hF.o];exact bD (by rw[Bool.eq_iff_iff];simp<;>omega),(J _ _).alloc (U _) _⟩
 ·by_cases h11:n.kind=11
  ·have hF:Hid (A=(decide (n.sl=0)&&decide (n.least=0)&&decide (n.an=0)&&decide (n.bB=0)&&!fo)):=by
    show _=_
    rw[HE.o]
    simp only[decide_eq_false h2,decide_eq_true h11,(decide_eq_false (by omega):decide (n.kind=12)=false),(decide_eq_false (by omega):decide (n.kind=18)=false),Bool.true_or,Bool.false_or,Bool.and_true,Bool.or_false]
   have b2:(n.kind==2)=false:=by simpa using h2
   have b11:(n.kind==11)=true:=by simpa using h11
   clear h2 h11 HE
   cases fo with
   |true=>
    go_enter func55,ntmps55
    go_wp2
    all_goals go_ret
    all_goals exact⟨by rw[hF.o];exact bD (by rw[Bool.eq_iff_iff];simp<;>omega),(J _ _).alloc (U _) _⟩
   |false=>
    go_enter func55,ntmps55
    go_wp2
    all_goals go_ret
    all_goals exact⟨by rw[hF.o];exact bD (by rw[Bool.eq_iff_iff];simp<;>omega),(J _ _).alloc (U _) _⟩
  ·by_cases h12:n.kind=12
   ·have hF:Hid (A=(decide (n.sl=0)&&decide (n.num=0)&&!fo)):=by
     show _=_
     rw[HE.o]
     simp only[decide_eq_false h2,decide_eq_false h11,decide_eq_true h12,(decide_eq_false (by omega):decide (n.kind=18)=false),Bool.true_or,Bool.false_or,Bool.and_true,Bool.or_false]
    have b2:(n.kind==2)=false:=by simpa using h2
    have b11:(n.kind==11)=false:=by simpa using h11
    have b12:(n.kind==12)=true:=by simpa using h12
    clear h2 h11 h12 HE
    cases fo with
    |true=>
     go_enter func55,ntmps55
     go_wp2
     all_goals go_ret
     all_goals exact⟨by rw[hF.o];exact bD (by rw[Bool.eq_iff_iff];simp<;>omega),(J _ _).alloc (U _) _⟩
    |false=>
     go_enter func55,ntmps55
     go_wp2
     all_goals go_ret
     all_goals exact⟨by rw[hF.o];exact bD (by rw[Bool.eq_iff_iff];simp<;>omega),(J _ _).alloc (U _) _⟩
   ·by_cases h18:n.kind=18
    ·have hF:Hid (A=(decide (n.sl=0)&&decide (n.least=0)&&decide (n.an=0)&&decide (n.bB=0))):=by
      show _=_
      rw[HE.o]
      simp only[decide_eq_false h2,decide_eq_false h11,decide_eq_false h12,decide_eq_true h18,Bool.true_or,Bool.false_or,Bool.and_true,Bool.or_true]
     have b2:(n.kind==2)=false:=by simpa using h2
     have b11:(n.kind==11)=false:=by simpa using h11
     have b12:(n.kind==12)=false:=by simpa using h12
     have b18:(n.kind==18)=true:=by simpa using h18
     clear h2 h11 h12 h18 HE
     cases fo with
     |true=>
      go_enter func55,ntmps55
      go_wp2
      all_goals go_ret
      all_goals exact⟨by rw[hF.o];exact bD (by rw[Bool.eq_iff_iff];simp<;>omega),(J _ _).alloc (U _) _⟩
     |false=>
      go_enter func55,ntmps55
      go_wp2
      all_goals go_ret
      all_goals exact⟨by rw[hF.o];exact bD (by rw[Bool.eq_iff_iff];simp<;>omega),(J _ _).alloc (U _) _⟩
    ·have hF:Hid (A=(decide (n.sl=0)&&decide (n.num=0)&&decide (n.least=0)&&decide (n.an=0)&&decide (n.bB=0)&&!fo)):=by
      show _=_
      rw[HE.o]
      simp only[decide_eq_false h2,decide_eq_false h11,decide_eq_false h12,decide_eq_false h18,Bool.false_or,Bool.or_false]
     have b2:(n.kind==2)=false:=by simpa using h2
     have b11:(n.kind==11)=false:=by simpa using h11
     have b12:(n.kind==12)=false:=by simpa using h12
     have b18:(n.kind==18)=false:=by simpa using h18
     clear h2 h11 h12 h18 HE
     cases fo with
     |true=>
      go_enter func55,ntmps55
      go_wp2
      all_goals go_ret
      all_goals exact⟨by rw[hF.o];exact bD (by rw[Bool.eq_iff_iff];simp<;>omega),(J _ _).alloc (U _) _⟩
     |false=>
      go_enter func55,ntmps55
      go_wp2
      all_goals go_ret
      all_goals exact⟨by rw[hF.o];exact bD (by rw[Bool.eq_iff_iff];simp<;>omega),(J _ _).alloc (U _) _⟩
def mR(t:Tr):Int:=if ¬(0<=t.least/\t.least<=100)then 3 else if ¬(t.an= -1\/(t.least<=t.an/\t.an<=100))then 3 else if ¬(1<=t.bB/\t.bB<=3)then 7 else 0
def qZ(z:Int):Ending:=if z=0 then .returned (.tuple #[])else bK z
theorem bQ(k:Int)(w:World):Calls prog 53 #[.bool true,.int .i64 k] w fun e w'=>e=.returned (.tuple #[])/\w=w':=xu true k w
theorem cX(k:Int)(w:World):Calls prog 53 #[.bool false,.int .i64 k] w fun e w'=>e=bK k/\w=w':=xu false k w
theorem cE(n:NV)(t:Tr)(w:World)(h:aV w n t):Calls prog 57 #[cz n] w fun e w'=>e=qZ (mR t)/\Below w.heap.size w w':=by
 obtain⟨-, -,k2,k3,k4, -⟩:=h.open
 have hb:Below w.heap.size w (w.alloc (aG n)):=(J _ _).alloc (U _) _
 obtain⟨w1,hw1⟩:∃w1,w1=w.alloc (aG n):=⟨_,rfl⟩
 have hbox:w1.heap[w.heap.size]? =some (aG n):=by rw[hw1];exact aj _ _
 rw[<- hw1]at hb
 have HB:=I hb
 obtain⟨d0,d1,d2,d3,d4,d5,d6,d7⟩:=ak hbox
 simp only[aG]at hw1
 have HE:Hid (mR t=if ¬(0<=n.least/\n.least<=100)then 3 else if ¬(n.an= -1\/(n.least<=n.an/\n.an<=100))then 3 else if ¬(1<=n.bB/\n.bB<=3)then 7 else 0):=by show _=_;unfold mR;rw[k2,k3,k4]
 have HY:=I (fun k=>bQ k w1)
 have HN:Hid (∀k,Calls prog 53 #[.bool false,.int .i64 k] w1 fun e w'=>e=.panicked [{ v:=.iface 29 (.int .i64 k),recovered:=false }]/\w1=w'):=fun k=>cX k w1
 obtain⟨A,hA⟩:∃A,A=mR t:=⟨_,rfl⟩
 rw[<- hA]at HE |-
 clear h k2 k3 k4 hA hbox hb
 by_cases h1:0<=n.least/\n.least<=100
 ·obtain ⟨a1,a2⟩:=h1
  by_cases h2:n.an= -1\/(n.least<=n.an/\n.an<=100)
  ·by_cases h3:1<=n.bB/\n.bB<=3
   ·have hF:Hid (A=0):=by show _=_;rw[HE.o,if_neg (by omega),if_neg (by omega),if_neg (by omega)]
    obtain⟨c1,c2⟩:=h3
    rw[hF.o]
    simp only[qZ,if_true]
    by_cases h4:n.an= -1
    ·have b4:(n.an== -1)=true:=by simpa using h4
     clear h2 h4
     go_enter func57,ntmps57
     go_wp2_with fail
     rw[<- hw1]
     clear hw1
     refine(HY.o 3).mono ?_
     rintro e w' ⟨rfl,rfl⟩
     go_wp2_with fail
     refine(HY.o 3).mono ?_
     rintro e w' ⟨rfl,rfl⟩
     go_wp2_with fail
     refine(HY.o 7).mono ?_
     rintro e w' ⟨rfl,rfl⟩
     go_wp2
     go_end0
     exact⟨rfl,HB.o⟩
    ·have b4:(n.an== -1)=false:=by simpa using h4
     have c3:n.least<=n.an:=by omega
     have c4:n.an<=100:=by omega
     clear h2 h4
     go_enter func57,ntmps57
     go_wp2_with fail
     rw[<- hw1]
     clear hw1
     refine(HY.o 3).mono ?_
     rintro e w' ⟨rfl,rfl⟩
     go_wp2_with fail
     refine(HY.o 3).mono ?_
     rintro e w' ⟨rfl,rfl⟩
     go_wp2_with fail
     refine(HY.o 7).mono ?_
     rintro e w' ⟨rfl,rfl⟩
     go_wp2
     go_end0
     exact⟨rfl,HB.o⟩
   ·have hF:Hid (A=7):=by show _=_;rw[HE.o,if_neg (by omega),if_neg (by omega),if_pos h3]
    rw[hF.o]
    simp only[qZ,bK]
    rw[if_neg (by decide)]
    by_cases h4:n.an= -1
    ·have b4:(n.an== -1)=true:=by simpa using h4
     clear h2 h4
     by_cases g1:1<=n.bB
     ·have g2:decide (n.bB<=3)=false:=decide_eq_false (by omega)
      clear h3
      go_enter func57,ntmps57
      go_wp2_with fail
      rw[<- hw1]
      clear hw1
      refine(HY.o 3).mono ?_
      rintro e w' ⟨rfl,rfl⟩
      go_wp2_with fail
      refine(HY.o 3).mono ?_
      rintro e w' ⟨rfl,rfl⟩
      go_wp2_with fail
      refine(HN.o 7).mono ?_
      rintro e w' ⟨rfl,rfl⟩
      go_wp2
      exact⟨rfl,rfl,HB.o⟩
     ·clear h3
      go_enter func57,ntmps57
      go_wp2_with fail
      rw[<- hw1]
      clear hw1
      refine(HY.o 3).mono ?_
      rintro e w' ⟨rfl,rfl⟩
      go_wp2_with fail
      refine(HY.o 3).mono ?_
      rintro e w' ⟨rfl,rfl⟩
      go_wp2_with fail
      refine(HN.o 7).mono ?_
      rintro e w' ⟨rfl,rfl⟩
      go_wp2
      exact⟨rfl,rfl,HB.o⟩
    ·have b4:(n.an== -1)=false:=by simpa using h4
     have c3:n.least<=n.an:=by omega
     have c4:n.an<=100:=by omega
     clear h2 h4
     by_cases g1:1<=n.bB
     ·have g2:decide (n.bB<=3)=false:=decide_eq_false (by omega)
      clear h3
      go_enter func57,ntmps57
      go_wp2_with fail
      rw[<- hw1]
      clear hw1
      refine(HY.o 3).mono ?_
      rintro e w' ⟨rfl,rfl⟩
      go_wp2_with fail
      refine(HY.o 3).mono ?_
      rintro e w' ⟨rfl,rfl⟩
      go_wp2_with fail
      refine(HN.o 7).mono ?_
      rintro e w' ⟨rfl,rfl⟩
      go_wp2
      exact⟨rfl,rfl,HB.o⟩
     ·clear h3
      go_enter func57,ntmps57
      go_wp2_with fail
      rw[<- hw1]
      clear hw1
      refine(HY.o 3).mono ?_
      rintro e w' ⟨rfl,rfl⟩
      go_wp2_with fail
      refine(HY.o 3).mono ?_
      rintro e w' ⟨rfl,rfl⟩
      go_wp2_with fail
      refine(HN.o 7).mono ?_
      rintro e w' ⟨rfl,rfl⟩
      go_wp2
      exact⟨rfl,rfl,HB.o⟩
  ·have hF:Hid (A=3):=by show _=_;rw[HE.o,if_neg (by omega),if_pos h2]
   rw[hF.o]
   simp only[qZ,bK]
   rw[if_neg (by decide)]
   have b4:(n.an== -1)=false:=by simp only[beq_eq_false_iff_ne,ne_eq];omega
   by_cases g1:n.least<=n.an
   ·have g2:decide (n.an<=100)=false:=decide_eq_false (by omega)
    clear h2
    go_enter func57,ntmps57
    go_wp2_with fail
    rw[<- hw1]
    clear hw1
    refine(HY.o 3).mono ?_
    rintro e w' ⟨rfl,rfl⟩
    go_wp2_with fail
    refine(HN.o 3).mono ?_
    rintro e w' ⟨rfl,rfl⟩
    go_wp2
    exact⟨rfl,rfl,HB.o⟩
   ·clear h2
    go_enter func57,ntmps57
    go_wp2_with fail
    rw[<- hw1]
    clear hw1
    refine(HY.o 3).mono ?_
    rintro e w' ⟨rfl,rfl⟩
    go_wp2_with fail
    refine(HN.o 3).mono ?_
    rintro e w' ⟨rfl,rfl⟩
    go_wp2
    exact⟨rfl,rfl,HB.o⟩
 ·have hF:Hid (A=3):=by show _=_;rw[HE.o,if_pos h1]
  rw[hF.o]
  simp only[qZ,bK]
  rw[if_neg (by decide)]
  by_cases g1:0<=n.least
  ·have g2:decide (n.least<=100)=false:=decide_eq_false (by omega)
   clear h1
   go_enter func57,ntmps57
   go_wp2_with fail
   rw[<- hw1]
   clear hw1
   refine(HN.o 3).mono ?_
   rintro e w' ⟨rfl,rfl⟩
   go_wp2
   exact⟨rfl,rfl,HB.o⟩
  ·clear h1
   go_enter func57,ntmps57
   go_wp2_with fail
   rw[<- hw1]
   clear hw1
   refine(HN.o 3).mono ?_
   rintro e w' ⟨rfl,rfl⟩
   go_wp2
   exact⟨rfl,rfl,HB.o⟩
mutual
def fL:Tr->Nat
 | .mk _ _ _ _ _ _ _ kids=>1+fj kids
def fj:List Tr->Nat
 |[]=>0
 |t::ts=>fL t+fj ts
end
theorem mI{ts:List Tr}{j:Nat}(hj:j<ts.length):fj (ts.drop j)=fL ts[j]+fj (ts.drop (j+1)):=by
 rw[List.drop_eq_getElem_cons hj,fj]
theorem eD(t:Tr):fL t=1+fj t.kids:=by cases t;rfl
theorem Fx{step:Tr->Nat->Nat}(hs:∀t c,c<1001->step t c<1001->step t c=c+fL t)(hle:∀t c,c<=1000->step t c<=1001):∀(ts:List Tr) (c:Nat),c<1001->kQ step ts c<1001->kQ step ts c=c+fj ts:=by
 intro ts
 induction ts with
 |nil=>intro c _ _;rfl
 |cons t ts ih=>
  intro c hc h
  unfold kQ at h |-
  rw[if_pos hc]at h |-
  have h1:step t c<1001:=by
   by_cases hh:step t c<1001
   ·exact hh
   ·rw[oa hh]at h;exact absurd h hh
  rw[ih _ h1 h,hs t c hc h1,fj];omega
theorem GO:∀(f:Nat) (t:Tr) (c:Nat),c<1001->jH f t c<1001->jH f t c=c+fL t:=by
 intro f
 induction f with
 |zero=>intro t c _ h;exact absurd h (by unfold jH;omega)
 |succ f ih=>
  intro t c hc h
  unfold jH at h |-
  by_cases h1:c+1<1001
  ·rw[Fx ih (zC f) _ _ h1 h,eD];omega
  ·rw[oa h1]at h;omega
theorem tm{t:Tr}(h:gd t<1001):fL t<=1000:=by
 have:=GO 201 t 0 (by omega) h
 unfold gd at h
 omega
abbrev St:Type:=Int×List Int
def cW(t:Tr)(s:St):Except Int St:=
 if ¬(1<=t.kind/\t.kind<=18)then .error 7
 else if (cK t&&bO t)=false then .error 1
 else if bj t.set≠0 then .error (bj t.set)
 else if t.kind=12 then(if mR t=0 then .ok s else .error (mR t))
 else if t.kind=11 then(if t.num=s.1+1 then .ok (s.1+1,s.2)else .error 4)
 else if t.kind=18 then .ok (s.1,s.2++[t.num])
 else .ok s
mutual
def cP:Tr->St->Except Int St
 | .mk k a b c d e f kids,s=>match cW (.mk k a b c d e f kids) s with
  | .ok s'=>cG kids s'
  | .error z=>.error z
def cG:List Tr->St->Except Int St
 |[],s=>.ok s
 |t::ts,s=>match cP t s with
  | .ok s'=>cG ts s'
  | .error z=>.error z
end
theorem fp(t:Tr)(s:St):cP t s=match cW t s with| .ok s'=>cG t.kids s'| .error z=>.error z:=by
 cases t;rfl
theorem kT{ts:List Tr}{j:Nat}(hj:j<ts.length)(s:St):cG (ts.drop j) s=match cP ts[j] s with| .ok s'=>cG (ts.drop (j+1)) s'| .error z=>.error z:=by
 rw[List.drop_eq_getElem_cons hj];rfl
theorem zw{t:Tr}{s s':St}(h:cW t s=.ok s'):s.1<=s'.1/\s'.1<=s.1+1/\s'.2.length<=s.2.length+1:=by
 unfold cW at h
 split at h
 ·cases h
 ·split at h
  ·cases h
  ·split at h
   ·cases h
   ·split at h
    ·split at h
     ·cases h;omega
     ·cases h
    ·split at h
     ·split at h
      ·cases h;simp;omega
      ·cases h
     ·split at h
      ·cases h;simp<;>omega
      ·cases h;omega
mutual
theorem fO:∀(t:Tr) (s s':St),cP t s=.ok s'->s.1<=s'.1/\s'.1<=s.1+fL t/\s'.2.length<=s.2.length+fL t
 | .mk k a b c d e f kids,s,s',h=>by
  rw[fp]at h
  cases hn:cW (.mk k a b c d e f kids) s with
  |error z=>rw[hn]at h;cases h
  |ok s1=>
   rw[hn]at h
   have h1:=zw hn
   have h2:=ta kids s1 s' h
   rw[fL]
   omega
theorem ta:∀(ts:List Tr) (s s':St),cG ts s=.ok s'->s.1<=s'.1/\s'.1<=s.1+fj ts/\s'.2.length<=s.2.length+fj ts
 |[],s,s',h=>by cases h;simp[fj]
 |t::ts,s,s',h=>by
  unfold cG at h
  cases hn:cP t s with
  |error z=>rw[hn]at h;cases h
  |ok s1=>
   rw[hn]at h
   have h1:=fO t s s1 hn
   have h2:=ta ts s1 s' h
   rw[fj]
   omega
end
def CK(B:Nat)(w:World)(cb:Nat)(s:St):Prop:=
 B<=cb/\∃v,w.heap[cb]? =some (.cells #[.int .i64 s.1,v] 79 (0,0))/\w.ownsRow B 3 1 v s.2.length (dm s.2)/\v.ownBlock≠some cb
def lE(B:Nat)(R:Except Int St)(cb:Nat)(w:World)(e:Ending)(w':World):Prop:=
 Below B w w'/\((∃s',R=.ok s'/\e=.returned (.tuple #[])/\CK B w' cb s')\/(∃z,R=.error z/\e=.panicked [{ v:=.iface 29 (.int .i64 z),recovered:=false }]))
theorem nr{B e k n:Nat}{w w':World}{v:Value}{xs:List Value}(h:w.ownsRow B e k v n xs)(hb:Below w.heap.size w w'):w'.ownsRow B e k v n xs:=by
 rcases h with⟨h0,h1⟩
 refine⟨h0,?_⟩
 rcases h1 with h1|⟨g,cap,cur,h1,h2,h3,h4⟩
 ·exact .inl h1
 ·exact .inr ⟨g,cap,cur,h1,h2,by rw[hb.block g (lt_of_block h3)];exact h3,h4⟩
theorem CK.ar{B:Nat}{w w':World}{cb:Nat}{s:St}(h:CK B w cb s)(hb:Below w.heap.size w w'):CK B w' cb s:=by
 obtain⟨h1,v,h2,h3,h4⟩:=h
 exact⟨h1,v,by rw[hb.block cb (lt_of_block h2)];exact h2,nr h3 hb,h4⟩
theorem CI(B:Nat)(n:NV)(t:Tr)(w:World)(cb:Nat)(s:St)(h:aV w n t)(hB:B<=w.heap.size)(hck:CK B w cb s)(hbad:¬(1<=t.kind/\t.kind<=18)):Calls prog 34 #[.pointer (some ⟨cb,0,none⟩),cz n] w fun e w'=>e=.panicked [{ v:=.iface 29 (.int .i64 7),recovered:=false }]/\Below w.heap.size w w':=by
 obtain⟨k0,k1,k2,k3,k4,k5,hr,vs,hk,hkids⟩:=h.open
 have hb:Below w.heap.size w (w.alloc (aG n)):=(J _ _).alloc (U _) _
 have HHK:=I (fun W (hW:Below w.heap.size w W)=>cM n t W (h.ar hW))
 have HHF:=I (fun W (hW:Below w.heap.size w W)=>cw n t W (h.ar hW))
 have HHR:=I (fun W (hW:Below w.heap.size w W)=>cE n t W (h.ar hW))
 have HSC:=I (fun W (hW:Below w.heap.size w W)=>dA _ t.set W (hr.below hW))
 have HY:=I (fun k W=>bQ k W)
 have HM:Hid (∀k W,Calls prog 53 #[.bool false,.int .i64 k] W fun e w'=>e=.panicked [{ v:=.iface 29 (.int .i64 k),recovered:=false }]/\W=w'):=fun k W=>cX k W
 obtain⟨w1,hw1⟩:∃w1,w1=w.alloc (aG n):=⟨_,rfl⟩
 have hbox:w1.heap[w.heap.size]? =some (aG n):=by rw[hw1];exact aj _ _
 rw[<- hw1]at hb
 have HB:=I hb
 have HX:=I hbox
 have HCK:=I hck
 obtain⟨d0,d1,d2,d3,d4,d5,d6,d7⟩:=ak hbox
 simp only[aG]at hw1
 rw[k0]at hbad
 clear h hr hk hkids hbox hb k0 k1 k2 k3 k4 k5 HHK HHF HHR HSC HX HCK hck hB
 by_cases g1:1<=n.kind
 ·have g2:decide (n.kind<=18)=false:=decide_eq_false (by omega)
  clear hbad
  go_enter func34,ntmps34
  go_wp2_with fail
  rw[<- hw1]
  clear hw1
  refine(HM.o 7 w1).mono ?_
  rintro e w' ⟨rfl,rfl⟩
  go_wp2
  exact⟨rfl,rfl,HB.o⟩
 ·clear hbad
  go_enter func34,ntmps34
  go_wp2_with fail
  rw[<- hw1]
  clear hw1
  refine(HM.o 7 w1).mono ?_
  rintro e w' ⟨rfl,rfl⟩
  go_wp2
  exact⟨rfl,rfl,HB.o⟩
theorem CG(B:Nat)(n:NV)(t:Tr)(w:World)(cb:Nat)(s:St)(h:aV w n t)(hB:B<=w.heap.size)(hck:CK B w cb s)(hkd:1<=t.kind/\t.kind<=18)(hbad:(cK t&&bO t)=false):Calls prog 34 #[.pointer (some ⟨cb,0,none⟩),cz n] w fun e w'=>e=.panicked [{ v:=.iface 29 (.int .i64 1),recovered:=false }]/\Below w.heap.size w w':=by
 obtain⟨k0,k1,k2,k3,k4,k5,hr,vs,hk,hkids⟩:=h.open
 have hb:Below w.heap.size w (w.alloc (aG n)):=(J _ _).alloc (U _) _
 have HHK:=I (fun W (hW:Below w.heap.size w W)=>cM n t W (h.ar hW))
 have HHF:=I (fun W (hW:Below w.heap.size w W)=>cw n t W (h.ar hW))
 have HHR:=I (fun W (hW:Below w.heap.size w W)=>cE n t W (h.ar hW))
 have HSC:=I (fun W (hW:Below w.heap.size w W)=>dA _ t.set W (hr.below hW))
 have HY:=I (fun k W=>bQ k W)
 have HM:Hid (∀k W,Calls prog 53 #[.bool false,.int .i64 k] W fun e w'=>e=.panicked [{ v:=.iface 29 (.int .i64 k),recovered:=false }]/\W=w'):=fun k W=>cX k W
 obtain⟨w1,hw1⟩:∃w1,w1=w.alloc (aG n):=⟨_,rfl⟩
 have hbox:w1.heap[w.heap.size]? =some (aG n):=by rw[hw1];exact aj _ _
 rw[<- hw1]at hb
 have HB:=I hb
 have HX:=I hbox
 have HCK:=I hck
 obtain⟨d0,d1,d2,d3,d4,d5,d6,d7⟩:=ak hbox
 simp only[aG]at hw1
 rw[k0]at hkd
 obtain⟨g1,g2⟩:=hkd
 obtain⟨b1,hb1⟩:∃b1,b1=cK t:=⟨_,rfl⟩
 obtain⟨b2,hb2⟩:∃b2,b2=bO t:=⟨_,rfl⟩
 rw[<- hb1]at HHK hbad
 rw[<- hb2]at HHF hbad
 clear h hr hk hkids hbox hb k0 k1 k2 k3 k4 k5 HHR HSC HCK hck hB hb1 hb2
 cases b1 with
 |false=>
  have HB1:=HB
  have HX1:=HX
  clear HB HX
  go_enter func34,ntmps34
  go_wp2_with fail
  rw[<- hw1]
  clear hw1
  refine(HY.o 7 w1).mono ?_
  rintro e w' ⟨rfl,rfl⟩
  go_wp2_with fail
  refine(HHK.o w1 HB1.o).mono ?_
  rintro e w2 ⟨rfl,hb2⟩
  have HB2:=I (HB1.o.trans (hb2.mono HB1.o.size))
  have HX2:=I (show w2.heap[w.heap.size]? =some (aG n) by rw[hb2.block _ (lt_of_block HX1.o)];exact HX1.o)
  clear hb2 HB1 HX1 d0 d1 d2 d3 d4 d5 d6 d7
  obtain⟨d0,d1,d2,d3,d4,d5,d6,d7⟩:=ak HX2.o
  go_wp2_with fail
  refine(HM.o 1 w2).mono ?_
  rintro e w' ⟨rfl,rfl⟩
  go_wp2
  exact⟨rfl,rfl,HB2.o⟩
 |true=>
  cases b2 with
  |true=>cases hbad
  |false=>
   have HB1:=HB
   have HX1:=HX
   clear HB HX
   go_enter func34,ntmps34
   go_wp2_with fail
   rw[<- hw1]
   clear hw1
   refine(HY.o 7 w1).mono ?_
   rintro e w' ⟨rfl,rfl⟩
   go_wp2_with fail
   refine(HHK.o w1 HB1.o).mono ?_
   rintro e w2 ⟨rfl,hb2⟩
   have HB2:=I (HB1.o.trans (hb2.mono HB1.o.size))
   have HX2:=I (show w2.heap[w.heap.size]? =some (aG n) by rw[hb2.block _ (lt_of_block HX1.o)];exact HX1.o)
   clear hb2 HB1 HX1 d0 d1 d2 d3 d4 d5 d6 d7
   obtain⟨d0,d1,d2,d3,d4,d5,d6,d7⟩:=ak HX2.o
   go_wp2_with fail
   refine(HHF.o w2 HB2.o).mono ?_
   rintro e w3 ⟨rfl,hb3⟩
   have HB3:=I (HB2.o.trans (hb3.mono HB2.o.size))
   have HX3:=I (show w3.heap[w.heap.size]? =some (aG n) by rw[hb3.block _ (lt_of_block HX2.o)];exact HX2.o)
   clear hb3 HB2 HX2 d0 d1 d2 d3 d4 d5 d6 d7
   obtain⟨d0,d1,d2,d3,d4,d5,d6,d7⟩:=ak HX3.o
   go_wp2_with fail
   refine(HM.o 1 w3).mono ?_
   rintro e w' ⟨rfl,rfl⟩
   go_wp2
   exact⟨rfl,rfl,HB3.o⟩
theorem Ek(B:Nat)(n:NV)(t:Tr)(w:World)(cb:Nat)(s:St)(h:aV w n t)(hB:B<=w.heap.size)(hck:CK B w cb s)(hkd:1<=t.kind/\t.kind<=18)(hok:(cK t&&bO t)=true)(hbad:bj t.set≠0):Calls prog 34 #[.pointer (some ⟨cb,0,none⟩),cz n] w fun e w'=>e=.panicked [{ v:=.iface 29 (.int .i64 (bj t.set)),recovered:=false }]/\Below w.heap.size w w':=by
 obtain⟨k0,k1,k2,k3,k4,k5,hr,vs,hk,hkids⟩:=h.open
 have hb:Below w.heap.size w (w.alloc (aG n)):=(J _ _).alloc (U _) _
 have HHK:=I (fun W (hW:Below w.heap.size w W)=>cM n t W (h.ar hW))
 have HHF:=I (fun W (hW:Below w.heap.size w W)=>cw n t W (h.ar hW))
 have HHR:=I (fun W (hW:Below w.heap.size w W)=>cE n t W (h.ar hW))
 have HSC:=I (fun W (hW:Below w.heap.size w W)=>dA _ t.set W (hr.below hW))
 have HY:=I (fun k W=>bQ k W)
 have HM:Hid (∀k W,Calls prog 53 #[.bool false,.int .i64 k] W fun e w'=>e=.panicked [{ v:=.iface 29 (.int .i64 k),recovered:=false }]/\W=w'):=fun k W=>cX k W
 obtain⟨w1,hw1⟩:∃w1,w1=w.alloc (aG n):=⟨_,rfl⟩
 have hbox:w1.heap[w.heap.size]? =some (aG n):=by rw[hw1];exact aj _ _
 rw[<- hw1]at hb
 have HB:=I hb
 have HX:=I hbox
 have HCK:=I hck
 obtain⟨d0,d1,d2,d3,d4,d5,d6,d7⟩:=ak hbox
 simp only[aG]at hw1
 rw[k0]at hkd
 obtain⟨g1,g2⟩:=hkd
 rw[Bool.and_eq_true]at hok
 rw[hok.1]at HHK
 rw[hok.2]at HHF
 obtain⟨z,hz⟩:∃z,z=bj t.set:=⟨_,rfl⟩
 rw[<- hz]at HSC hbad |-
 have hzb:(z==0)=false:=by simpa using hbad
 clear h hr hk hkids hbox hb k0 k1 k2 k3 k4 k5 HHR HCK hck hB hok hz hbad
 have HB1:=HB
 have HX1:=HX
 clear HB HX
 go_enter func34,ntmps34
 go_wp2_with fail
 rw[<- hw1]
 clear hw1
 refine(HY.o 7 w1).mono ?_
 rintro e w' ⟨rfl,rfl⟩
 go_wp2_with fail
 refine(HHK.o w1 HB1.o).mono ?_
 rintro e w2 ⟨rfl,hb2⟩
 have HB2:=I (HB1.o.trans (hb2.mono HB1.o.size))
 have HX2:=I (show w2.heap[w.heap.size]? =some (aG n) by rw[hb2.block _ (lt_of_block HX1.o)];exact HX1.o)
 clear hb2 HB1 HX1 d0 d1 d2 d3 d4 d5 d6 d7
 obtain⟨d0,d1,d2,d3,d4,d5,d6,d7⟩:=ak HX2.o
 go_wp2_with fail
 refine(HHF.o w2 HB2.o).mono ?_
 rintro e w3 ⟨rfl,hb3⟩
 have HB3:=I (HB2.o.trans (hb3.mono HB2.o.size))
 have HX3:=I (show w3.heap[w.heap.size]? =some (aG n) by rw[hb3.block _ (lt_of_block HX2.o)];exact HX2.o)
 clear hb3 HB2 HX2 d0 d1 d2 d3 d4 d5 d6 d7
 obtain⟨d0,d1,d2,d3,d4,d5,d6,d7⟩:=ak HX3.o
 go_wp2_with fail
 refine(HY.o 1 w3).mono ?_
 rintro e w' ⟨rfl,rfl⟩
 go_wp2_with fail
 refine(HSC.o w3 HB3.o).mono ?_
 rintro e w4 ⟨rfl,hb4⟩
 have HB4:=I (HB3.o.trans (hb4.mono HB3.o.size))
 have HX4:=I (show w4.heap[w.heap.size]? =some (aG n) by rw[hb4.block _ (lt_of_block HX3.o)];exact HX3.o)
 clear hb4 HB3 HX3 d0 d1 d2 d3 d4 d5 d6 d7
 obtain⟨d0,d1,d2,d3,d4,d5,d6,d7⟩:=ak HX4.o
 go_wp2_with fail
 refine(HM.o z w4).mono ?_
 rintro e w' ⟨rfl,rfl⟩
 go_wp2
 exact⟨rfl,rfl,HB4.o⟩
theorem bd{w:World}{N:Nat}{cs:Array Value}{e:TypeId}{fr:Nat×Nat}(h:w.heap[N]? =some (.cells cs e fr))(o:Nat)(v:Value):(w.setCell ⟨N,o,none⟩ v).heap[N]? =some (.cells (cs.setIfInBounds o v) e fr):=by
 have hlt:=lt_of_block h
 have h':w.heap[N]=.cells cs e fr:=by simpa[Array.getElem?_eq_getElem hlt]using h
 show(w.heap.modify N _)[N]? =_
 rw[Array.getElem?_eq_getElem (by simpa using hlt),Array.getElem_modify_self,h']
 rfl
theorem Ab{B e k n:Nat}{w:World}{v:Value}{xs:List Value}(h:w.ownsRow B e k v n xs){cb o:Nat}{u:Value}(hne:v.ownBlock≠some cb):(w.setCell ⟨cb,o,none⟩ u).ownsRow B e k v n xs:=by
 rcases h with⟨h0,h1⟩
 refine⟨h0,?_⟩
 rcases h1 with h1|⟨g,cap,cur,h1,h2,h3,h4⟩
 ·exact .inl h1
 ·refine .inr ⟨g,cap,cur,h1,h2,?_,h4⟩
  rw[Below.heap_setCell _ _ _ _ (fun e=>hne (by rw[h1];simp only at e;rw[<- e];rfl))]
  exact h3
theorem CK.aF{B:Nat}{w:World}{cb:Nat}{s:St}(h:CK B w cb s)(g:Int):CK B (w.setCell ⟨cb,0,none⟩ (.int .i64 g)) cb (g,s.2):=by
 obtain⟨h1,v,h2,h3,h4⟩:=h
 exact⟨h1,v,by rw[bd h2];rfl,Ab h3 h4,h4⟩
theorem CK.cells{B:Nat}{w:World}{cb:Nat}{s:St}(h:CK B w cb s):∃v,w.cell? ⟨cb,0,none⟩=some (.int .i64 s.1)/\w.cell? ⟨cb,1,none⟩=some v/\w.ownsRow B 3 1 v s.2.length (dm s.2)/\v.ownBlock≠some cb/\(∀o,w.frozen? ⟨cb,o,none⟩=false)/\cb<w.heap.size:=by
 obtain⟨h1,v,h2,h3,h4⟩:=h
 exact⟨v,by simp[World.cell?,h2],by simp[World.cell?,h2],h3,h4,fun o=>by simp[World.frozen?,h2],lt_of_block h2⟩
theorem Bd(k:Int)(w:World):Calls prog 53 #[.bool true,.int .i64 k] w fun e w'=>e=.returned (.tuple #[])/\w'=w:=(bQ k w).mono (by rintro e w' ⟨rfl,rfl⟩;exact⟨rfl,rfl⟩)
theorem EW(w0:World)(n:NV)(set:RL)(ks:List Tr)(vs:Nat->NV)(h0:aV w0 n (.mk n.kind n.num n.least n.an n.bB n.fold set ks))(hk:bS w0 n.ka n.kl n.kc ks.length vs)(w:World)(hw0:Below w0.heap.size w0 w)(cb:Nat)(s:St)(hck:CK w0.heap.size w cb s)(hkd:1<=n.kind/\n.kind<=18)(hok:(cK (.mk n.kind n.num n.least n.an n.bB n.fold set ks)&&bO (.mk n.kind n.num n.least n.an n.bB n.fold set ks))=true)(hzs:bj set=0)(hk12:n.kind=12)(hrep:mR (.mk n.kind n.num n.least n.an n.bB n.fold set ks)=0)(hsz:0<=s.1/\s.1+fj ks+1<=1000000/\s.2.length+fj ks+1<=1000000)(ih:∀j (hj:j<ks.length) (W:World) (s:St),Below w0.heap.size w0 W->CK w0.heap.size W cb s->0<=s.1/\s.1+fL ks[j]<=1000000/\s.2.length+fL ks[j]<=1000000->Calls prog 34 #[.pointer (some ⟨cb,0,none⟩),cz (vs j)] W fun e w'=>lE w0.heap.size (cP ks[j] s) cb W e w'):Calls prog 34 #[.pointer (some ⟨cb,0,none⟩),cz n] w fun e w'=>lE w0.heap.size (cP (.mk n.kind n.num n.least n.an n.bB n.fold set ks) s) cb w e w':=by
 have h:=h0.ar hw0
 have hr:=h.open.2.2.2.2.2.2.1
 obtain⟨t,ht⟩:∃t,t=Tr.mk n.kind n.num n.least n.an n.bB n.fold set ks:=⟨_,rfl⟩
 have hset:t.set=set:=by rw[ht];rfl
 rw[<- ht]at h hr hok hrep |-
 rw[<- hset]at hzs
 have hb:Below w.heap.size w (w.alloc (aG n)):=(J _ _).alloc (U _) _
 rw[Bool.and_eq_true]at hok
 have HHK:=I (fun W (hW:Below w.heap.size w W)=>cM n t W (h.ar hW))
 have HHF:=I (fun W (hW:Below w.heap.size w W)=>cw n t W (h.ar hW))
 have HHR:=I (fun W (hW:Below w.heap.size w W)=>cE n t W (h.ar hW))
 have HSC:=I (fun W (hW:Below w.heap.size w W)=>dA _ t.set W (hr.below hW))
 rw[hok.1]at HHK
 rw[hok.2]at HHF
 rw[hzs]at HSC
 have HY:=I (fun k W=>bQ k W)
 have HM:Hid (∀k W,Calls prog 53 #[.bool false,.int .i64 k] W fun e w'=>e=.panicked [{ v:=.iface 29 (.int .i64 k),recovered:=false }]/\W=w'):=fun k W=>cX k W
 have HKL:Hid (n.kl=ks.length):=hk.len
 have HK:=I hk
 have HW0:=I hw0
 obtain⟨w1,hw1⟩:∃w1,w1=w.alloc (aG n):=⟨_,rfl⟩
 have hbox:w1.heap[w.heap.size]? =some (aG n):=by rw[hw1];exact aj _ _
 rw[<- hw1]at hb
 have HB1:=I hb
 have HX1:=I hbox
 have HCK:=I hck
 obtain⟨d0,d1,d2,d3,d4,d5,d6,d7⟩:=ak hbox
 simp only[aG]at hw1
 obtain⟨g1,g2⟩:=hkd
 have HIH:=I ih
 have HFin:Hid (cP t s=cG ks s):=by
  show _=_
  rw[fp]
  have hn:cW t s=.ok s:=by
   unfold cW
   have hkk:t.kind=n.kind:=by rw[ht];rfl
   have hnn:t.num=n.num:=by rw[ht];rfl
   rw[hkk,hnn,if_neg (by omega),if_neg (by rw[hok.1,hok.2];decide),if_neg (by omega)]
   rw[if_pos hk12,if_pos hrep]
  rw[hn,ht];rfl
 have b12:(n.kind==12)=true:=by simpa using hk12
 rw[hrep]at HHR
 simp only[qZ,if_true]at HHR
 clear hk12 hrep
 clear h0 h hr hok hzs hset ht hbox hb hk hw0 hck ih
 go_enter func34,ntmps34
 go_wp2_with fail
 rw[<- hw1]
 clear hw1
 refine(HY.o 7 w1).mono ?_
 rintro e w' ⟨rfl,rfl⟩
 go_wp2_with fail
 refine(HHK.o w1 HB1.o).mono ?_
 rintro e w2 ⟨rfl,hb2⟩
 have HB2:=I (HB1.o.trans (hb2.mono HB1.o.size))
 have HX2:=I (show w2.heap[w.heap.size]? =some (aG n) by rw[hb2.block _ (lt_of_block HX1.o)];exact HX1.o)
 clear hb2 HB1 HX1 d0 d1 d2 d3 d4 d5 d6 d7
 obtain⟨d0,d1,d2,d3,d4,d5,d6,d7⟩:=ak HX2.o
 go_wp2_with fail
 refine(HHF.o w2 HB2.o).mono ?_
 rintro e w3 ⟨rfl,hb3⟩
 have HB3:=I (HB2.o.trans (hb3.mono HB2.o.size))
 have HX3:=I (show w3.heap[w.heap.size]? =some (aG n) by rw[hb3.block _ (lt_of_block HX2.o)];exact HX2.o)
 clear hb3 HB2 HX2 d0 d1 d2 d3 d4 d5 d6 d7
 obtain⟨d0,d1,d2,d3,d4,d5,d6,d7⟩:=ak HX3.o
 go_wp2_with fail
 refine(HY.o 1 w3).mono ?_
 rintro e w' ⟨rfl,rfl⟩
 go_wp2_with fail
 refine(HSC.o w3 HB3.o).mono ?_
 rintro e w4 ⟨rfl,hb4⟩
 have HB4:=I (HB3.o.trans (hb4.mono HB3.o.size))
 have HX4:=I (show w4.heap[w.heap.size]? =some (aG n) by rw[hb4.block _ (lt_of_block HX3.o)];exact HX3.o)
 clear hb4 HB3 HX3 d0 d1 d2 d3 d4 d5 d6 d7
 obtain⟨d0,d1,d2,d3,d4,d5,d6,d7⟩:=ak HX4.o
 go_wp2_with fail
 refine(HY.o 0 w4).mono ?_
 rintro e w' ⟨rfl,rfl⟩
 have HC4:=I (HCK.o.ar HB4.o)
 go_wp2_with fail
 refine(HHR.o w4 HB4.o).mono ?_
 rintro e w5 ⟨rfl,hb5⟩
 have HB5:=I (HB4.o.trans (hb5.mono HB4.o.size))
 have HX5:=I (show w5.heap[w.heap.size]? =some (aG n) by rw[hb5.block _ (lt_of_block HX4.o)];exact HX4.o)
 have HC5:=I (HC4.o.ar hb5)
 clear hb5 HB4 HX4 d0 d1 d2 d3 d4 d5 d6 d7
 obtain⟨d0,d1,d2,d3,d4,d5,d6,d7⟩:=ak HX5.o
 have HBw:Hid (Below w0.heap.size w w5):=HB5.o.mono HW0.o.size
 go_wp2
 clear d0 d1 d2 d3 d4 d5 d6 d7
 have hsz2:=hsz
 go_loopw [69] (fun t wr=>∃(j:Nat) (s2:St),j<=ks.length/\t=.int .i64 j/\cG ks s=cG (ks.drop j) s2/\CK w0.heap.size wr cb s2/\(0<=s2.1/\s2.1+fj (ks.drop j)<=1000000/\s2.2.length+fj (ks.drop j)<=1000000)/\Below w0.heap.size w wr) (fun t _=>ks.length - (intOf t).toNat)
 case atStart=>exact⟨0,s,Nat.zero_le _,rfl,rfl,HC5.o,by have h:=hsz2;simp only[List.drop_zero];omega,HBw.o⟩
 case round=>
  obtain⟨j,s2,hj,rfl,hE,hck2,hbd,hb⟩:=hrel
  have HE:=I hE
  have HBr:=I hb
  have HCr:=I hck2
  obtain⟨w20,hw20⟩:∃w20,w20=wr:=⟨_,rfl⟩
  subst hw20
  clear hb hE hck2
  by_cases hlt:j<ks.length
  ·have e2:(j:Int)<(n.kl:Int):=by have:=HKL.o;omega
   have e4:(0:Int)<=(j:Int):=by omega
   rcases HK.o with⟨_,_,_,h00⟩|⟨x,hx,hkk,hmx,hcl⟩
   ·exact absurd h00 (by omega)
   ·obtain ⟨d0,d1,d2,d3,d4,d5,d6,d7⟩:=(hcl j hlt).below (HW0.o.trans HBr.o)
    have hszj:=mI hlt
    have hB3:Below w20.heap.size w20 (w20.alloc (aG (vs j))):=(J _ _).alloc (U _) _
    have HC:=I (HIH.o j hlt (w20.alloc (aG (vs j))) s2 (HW0.o.trans (HBr.o.trans (hB3.mono (Nat.le_trans HW0.o.size HBr.o.size)))) (HCr.o.ar hB3) (by omega))
    obtain⟨w21,hw21⟩:∃w21,w21=w20.alloc (aG (vs j)):=⟨_,rfl⟩
    have hbx:w21.heap[w20.heap.size]? =some (aG (vs j)):=by rw[hw21];exact aj _ _
    rw[<- hw21]at HC hB3
    have HB21:=I (HBr.o.trans (hB3.mono (Nat.le_trans HW0.o.size HBr.o.size)))
    obtain⟨b0,b1,b2,b3,b4,b5,b6,b7⟩:=ak hbx
    simp only[aG]at hw21
    have hjw:IntKind.i64.wrap ((j:Int)+1)=(j:Int)+1:=by rw[IntKind.wrap_i64];omega
    have HD:=I (kT hlt s2)
    have HBD:=I hbd
    have HSJ:=I hszj
    rw[hx]
    clear hcl hx hkk hB3 hbx hszj hbd
    go_wp2_with fail
    rw[<- hw21]
    clear hw21
    refine HC.o.mono ?_
    rintro e w22 ⟨hb22,⟨s3,hR,rfl,hck3⟩|⟨z,hR,rfl⟩⟩
    ·have HB22:=I (HB21.o.trans hb22)
     have HC3:=I hck3
     have hgr:=fO _ _ _ hR
     have HNx:Hid (cG ks s=cG (ks.drop (j+1)) s3):=by show _=_;rw[HE.o,HD.o,hR]
     have HBd3:Hid (0<=s3.1/\s3.1+fj (ks.drop (j+1))<=1000000/\s3.2.length+fj (ks.drop (j+1))<=1000000):=by have:=HBD.o;have:=HSJ.o;show _/\_/\_;omega
     clear hb22 hck3 hgr hR HC HBD
     go_wp2
     go_roundw
     case rel=>exact⟨j+1,s3,by omega,by go_num,HNx.o,HC3.o,HBd3.o,HB22.o⟩
     case measure=>simp[intOf];omega
    ·have HB22:=I (HB21.o.trans hb22)
     have hF:Hid (cP t s=.error z):=by show _=_;rw[HFin.o,HE.o,HD.o,hR]
     clear hb22 hR HC
     go_wp2
     exact⟨rfl,HB22.o,.inr ⟨z,hF.o,rfl⟩⟩
  ·have e2:¬(j:Int)<(n.kl:Int):=by have:=HKL.o;omega
   have hF:Hid (cP t s=.ok s2):=by
    show _=_
    rw[HFin.o,HE.o,List.drop_eq_nil_of_le (by omega)];rfl
   go_wp2
   go_end0
   exact⟨HBr.o,.inl ⟨s2,hF.o,rfl,HCr.o⟩⟩
theorem wZ(w0:World)(n:NV)(set:RL)(ks:List Tr)(vs:Nat->NV)(h0:aV w0 n (.mk n.kind n.num n.least n.an n.bB n.fold set ks))(hk:bS w0 n.ka n.kl n.kc ks.length vs)(w:World)(hw0:Below w0.heap.size w0 w)(cb:Nat)(s:St)(hck:CK w0.heap.size w cb s)(hkd:1<=n.kind/\n.kind<=18)(hok:(cK (.mk n.kind n.num n.least n.an n.bB n.fold set ks)&&bO (.mk n.kind n.num n.least n.an n.bB n.fold set ks))=true)(hzs:bj set=0)(hk12:n.kind=12)(hrep:mR (.mk n.kind n.num n.least n.an n.bB n.fold set ks)≠0):Calls prog 34 #[.pointer (some ⟨cb,0,none⟩),cz n] w fun e w'=>e=.panicked [{ v:=.iface 29 (.int .i64 (mR (.mk n.kind n.num n.least n.an n.bB n.fold set ks))),recovered:=false }]/\Below w.heap.size w w':=by
 have h:=h0.ar hw0
 have hr:=h.open.2.2.2.2.2.2.1
 obtain⟨t,ht⟩:∃t,t=Tr.mk n.kind n.num n.least n.an n.bB n.fold set ks:=⟨_,rfl⟩
 have hset:t.set=set:=by rw[ht];rfl
 rw[<- ht]at h hr hok hrep |-
 rw[<- hset]at hzs
 have hb:Below w.heap.size w (w.alloc (aG n)):=(J _ _).alloc (U _) _
 rw[Bool.and_eq_true]at hok
 have HHK:=I (fun W (hW:Below w.heap.size w W)=>cM n t W (h.ar hW))
 have HHF:=I (fun W (hW:Below w.heap.size w W)=>cw n t W (h.ar hW))
 have HHR:=I (fun W (hW:Below w.heap.size w W)=>cE n t W (h.ar hW))
 have HSC:=I (fun W (hW:Below w.heap.size w W)=>dA _ t.set W (hr.below hW))
 rw[hok.1]at HHK
 rw[hok.2]at HHF
 rw[hzs]at HSC
 have HY:=I (fun k W=>bQ k W)
 have HM:Hid (∀k W,Calls prog 53 #[.bool false,.int .i64 k] W fun e w'=>e=.panicked [{ v:=.iface 29 (.int .i64 k),recovered:=false }]/\W=w'):=fun k W=>cX k W
 have HKL:Hid (n.kl=ks.length):=hk.len
 have HK:=I hk
 have HW0:=I hw0
 obtain⟨w1,hw1⟩:∃w1,w1=w.alloc (aG n):=⟨_,rfl⟩
 have hbox:w1.heap[w.heap.size]? =some (aG n):=by rw[hw1];exact aj _ _
 rw[<- hw1]at hb
 have HB1:=I hb
 have HX1:=I hbox
 have HCK:=I hck
 obtain⟨d0,d1,d2,d3,d4,d5,d6,d7⟩:=ak hbox
 simp only[aG]at hw1
 obtain⟨g1,g2⟩:=hkd
 have b12:(n.kind==12)=true:=by simpa using hk12
 obtain⟨z,hz⟩:∃z,z=mR t:=⟨_,rfl⟩
 rw[<- hz]at HHR hrep |-
 simp only[qZ,bK]at HHR
 rw[if_neg hrep]at HHR
 clear h0 h hr hok hzs hset ht hbox hb hk hw0 hck hk12 hrep hz
 go_enter func34,ntmps34
 go_wp2_with fail
 rw[<- hw1]
 clear hw1
 refine(HY.o 7 w1).mono ?_
 rintro e w' ⟨rfl,rfl⟩
 go_wp2_with fail
 refine(HHK.o w1 HB1.o).mono ?_
 rintro e w2 ⟨rfl,hb2⟩
 have HB2:=I (HB1.o.trans (hb2.mono HB1.o.size))
 have HX2:=I (show w2.heap[w.heap.size]? =some (aG n) by rw[hb2.block _ (lt_of_block HX1.o)];exact HX1.o)
 clear hb2 HB1 HX1 d0 d1 d2 d3 d4 d5 d6 d7
 obtain⟨d0,d1,d2,d3,d4,d5,d6,d7⟩:=ak HX2.o
 go_wp2_with fail
 refine(HHF.o w2 HB2.o).mono ?_
 rintro e w3 ⟨rfl,hb3⟩
 have HB3:=I (HB2.o.trans (hb3.mono HB2.o.size))
 have HX3:=I (show w3.heap[w.heap.size]? =some (aG n) by rw[hb3.block _ (lt_of_block HX2.o)];exact HX2.o)
 clear hb3 HB2 HX2 d0 d1 d2 d3 d4 d5 d6 d7
 obtain⟨d0,d1,d2,d3,d4,d5,d6,d7⟩:=ak HX3.o
 go_wp2_with fail
 refine(HY.o 1 w3).mono ?_
 rintro e w' ⟨rfl,rfl⟩
 go_wp2_with fail
 refine(HSC.o w3 HB3.o).mono ?_
 rintro e w4 ⟨rfl,hb4⟩
 have HB4:=I (HB3.o.trans (hb4.mono HB3.o.size))
 have HX4:=I (show w4.heap[w.heap.size]? =some (aG n) by rw[hb4.block _ (lt_of_block HX3.o)];exact HX3.o)
 clear hb4 HB3 HX3 d0 d1 d2 d3 d4 d5 d6 d7
 obtain⟨d0,d1,d2,d3,d4,d5,d6,d7⟩:=ak HX4.o
 go_wp2_with fail
 refine(HY.o 0 w4).mono ?_
 rintro e w' ⟨rfl,rfl⟩
 go_wp2_with fail
 refine(HHR.o w4 HB4.o).mono ?_
 rintro e w5 ⟨rfl,hb5⟩
 have HB5:=I (HB4.o.trans (hb5.mono HB4.o.size))
 clear hb5
 go_wp2
 exact⟨rfl,rfl,HB5.o⟩
theorem ax{B e:Nat}{w:World}{v:Value}{n k:Nat}{xs:List Value}(h:w.ownsRow B e k v n xs):∃ao cap,v=.slice ao n cap:=by
 rcases h.2 with⟨rfl,rfl⟩|⟨g,cap,cur,rfl,_⟩
 ·exact⟨_,_,rfl⟩
 ·exact⟨_,_,rfl⟩
theorem info_parts{o:Option TypeInfo}{z:Option Value}{s b:Nat}(h:o.map (fun i=>(i.zero,i.size,i.bytes))=some (z,s,b)):∃i,o=some i/\i.zero=z/\i.size=s/\i.bytes=b:=by
 cases o with
 |none=>simp at h
 |some i=>simp at h;exact⟨i,rfl,h.1,h.2.1,h.2.2⟩
theorem CQ:(Tryz.prog.info? 3).map (fun i=>(i.zero,i.size,i.bytes))=some (some (.int .i64 0),1,8):=by kernel_rfl
theorem xN{B:Nat}{w w':World}(h:Below B w w'):Below B w w'.drew:=⟨h.1,h.2,h.3,h.4,h.5⟩
theorem xn{B:Nat}{w wr w1:World}{v:Value}{n:Nat}{xs:List Value}(ho:wr.ownsRow B 3 1 v n xs)(hb:Below B w wr)(hB:B<=wr.heap.size){o:Obj}(hg:(wr.alloc o).drew.grownBy w1 v.ownBlock):Below B w w1:=
 hb.trans (((xN ((J B wr).alloc hB o))).grown hg (by show B<=(wr.alloc o).heap.size;simp;omega) (fun k hk=>(ho.lt k hk).1))
theorem qC{wr w1:World}{v:Value}{o:Obj}(hg:(wr.alloc o).drew.grownBy w1 v.ownBlock){k:Nat}(hk:k<wr.heap.size)(hne:v.ownBlock≠some k):w1.heap[k]? =wr.heap[k]? :=by
 rw[hg.block k (by show k<(wr.alloc o).heap.size;simp;omega) (fun e=>hne e.symm)]
 show(wr.alloc o).heap[k]? =_
 rw[Below.heap_alloc _ _ _ hk]
theorem CK.again{B:Nat}{wr w1:World}{cb:Nat}{s:St}{o:Obj}{ro:Option Addr}{rc gg cap:Nat}{num:Int}(hB:B<=cb)(hc:wr.heap[cb]? =some (.cells #[.int .i64 s.1,.slice ro s.2.length rc] 79 (0,0)))(hne:(Value.slice ro s.2.length rc).ownBlock≠some cb)(hg:(wr.alloc o).drew.grownBy w1 (Value.slice ro s.2.length rc).ownBlock)(hown:w1.ownsRow B 3 1 (.slice (some ⟨gg,0,none⟩) (s.2.length+1) cap) (s.2.length+1) (dm s.2++[.int .i64 num]))(hat:(Value.slice ro s.2.length rc).ownBlock=some gg\/gg=wr.heap.size+1):CK B (w1.setCell ⟨cb,1,none⟩ (.slice (some ⟨gg,0,none⟩) (s.2.length+1) cap)) cb (s.1,s.2++[num]):=by
 have hlt:=lt_of_block hc
 have h1:w1.heap[cb]? =some (.cells #[.int .i64 s.1,.slice ro s.2.length rc] 79 (0,0)):=by rw[qC hg hlt hne];exact hc
 have hn2:(Value.slice (some ⟨gg,0,none⟩) (s.2.length+1) cap).ownBlock≠some cb:=by
  rcases hat with e|e
  ·show some gg≠some cb
   rw[<- e];exact hne
  ·show some gg≠some cb
   intro e2
   have:=Option.some.inj e2
   omega
 refine⟨hB,_,by rw[bd h1];rfl,?_,hn2⟩
 have:=Ab (cb:=cb) (o:=1) (u:=.slice (some ⟨gg,0,none⟩) (s.2.length+1) cap) hown hn2
 simpa[dm]using this
theorem tR{B e k n:Nat}{w:World}{v:Value}{xs:List Value}(h:w.ownsRow B e k v n xs){g:Nat}(hg:v.ownBlock=some g):∃cur,w.heap[g]? =some (.cells cur e (0,0)):=by
 rcases h.2 with⟨rfl,_⟩|⟨g',cap,cur,rfl,_,hh,_⟩
 ·cases hg
 ·have :g'=g:=Option.some.inj hg
  subst this
  exact⟨_,hh⟩
theorem xQ(w0:World)(n:NV)(set:RL)(ks:List Tr)(vs:Nat->NV)(h0:aV w0 n (.mk n.kind n.num n.least n.an n.bB n.fold set ks))(hk:bS w0 n.ka n.kl n.kc ks.length vs)(w:World)(hw0:Below w0.heap.size w0 w)(cb:Nat)(s:St)(hck:CK w0.heap.size w cb s)(hkd:1<=n.kind/\n.kind<=18)(hok:(cK (.mk n.kind n.num n.least n.an n.bB n.fold set ks)&&bO (.mk n.kind n.num n.least n.an n.bB n.fold set ks))=true)(hzs:bj set=0)(hne:n.kind≠12/\n.kind≠11/\n.kind≠18)(hsz:0<=s.1/\s.1+fj ks+1<=1000000/\s.2.length+fj ks+1<=1000000)(ih:∀j (hj:j<ks.length) (W:World) (s:St),Below w0.heap.size w0 W->CK w0.heap.size W cb s->0<=s.1/\s.1+fL ks[j]<=1000000/\s.2.length+fL ks[j]<=1000000->Calls prog 34 #[.pointer (some ⟨cb,0,none⟩),cz (vs j)] W fun e w'=>lE w0.heap.size (cP ks[j] s) cb W e w'):Calls prog 34 #[.pointer (some ⟨cb,0,none⟩),cz n] w fun e w'=>lE w0.heap.size (cP (.mk n.kind n.num n.least n.an n.bB n.fold set ks) s) cb w e w':=by
 have h:=h0.ar hw0
 have hr:=h.open.2.2.2.2.2.2.1
 obtain⟨t,ht⟩:∃t,t=Tr.mk n.kind n.num n.least n.an n.bB n.fold set ks:=⟨_,rfl⟩
 have hset:t.set=set:=by rw[ht];rfl
 rw[<- ht]at h hr hok |-
 rw[<- hset]at hzs
 have hb:Below w.heap.size w (w.alloc (aG n)):=(J _ _).alloc (U _) _
 rw[Bool.and_eq_true]at hok
 have HHK:=I (fun W (hW:Below w.heap.size w W)=>cM n t W (h.ar hW))
 have HHF:=I (fun W (hW:Below w.heap.size w W)=>cw n t W (h.ar hW))
 have HHR:=I (fun W (hW:Below w.heap.size w W)=>cE n t W (h.ar hW))
 have HSC:=I (fun W (hW:Below w.heap.size w W)=>dA _ t.set W (hr.below hW))
 rw[hok.1]at HHK
 rw[hok.2]at HHF
 rw[hzs]at HSC
 have HY:=I (fun k W=>bQ k W)
 have HM:Hid (∀k W,Calls prog 53 #[.bool false,.int .i64 k] W fun e w'=>e=.panicked [{ v:=.iface 29 (.int .i64 k),recovered:=false }]/\W=w'):=fun k W=>cX k W
 have HKL:Hid (n.kl=ks.length):=hk.len
 have HK:=I hk
 have HW0:=I hw0
 obtain⟨w1,hw1⟩:∃w1,w1=w.alloc (aG n):=⟨_,rfl⟩
 have hbox:w1.heap[w.heap.size]? =some (aG n):=by rw[hw1];exact aj _ _
 rw[<- hw1]at hb
 have HB1:=I hb
 have HX1:=I hbox
 have HCK:=I hck
 obtain⟨d0,d1,d2,d3,d4,d5,d6,d7⟩:=ak hbox
 simp only[aG]at hw1
 obtain⟨g1,g2⟩:=hkd
 have HIH:=I ih
 have HFin:Hid (cP t s=cG ks s):=by
  show _=_
  rw[fp]
  have hn:cW t s=.ok s:=by
   unfold cW
   have hkk:t.kind=n.kind:=by rw[ht];rfl
   have hnn:t.num=n.num:=by rw[ht];rfl
   rw[hkk,hnn,if_neg (by omega),if_neg (by rw[hok.1,hok.2];decide),if_neg (by omega)]
   rw[if_neg (by omega),if_neg (by omega),if_neg (by omega)]
  rw[hn,ht];rfl
 have b12:(n.kind==12)=false:=by simp only[beq_eq_false_iff_ne,ne_eq];omega
 have b11:(n.kind==11)=false:=by simp only[beq_eq_false_iff_ne,ne_eq];omega
 have b18:(n.kind==18)=false:=by simp only[beq_eq_false_iff_ne,ne_eq];omega
 clear hne
 clear h0 h hr hok hzs hset ht hbox hb hk hw0 hck ih
 go_enter func34,ntmps34
 go_wp2_with fail
 rw[<- hw1]
 clear hw1
 refine(HY.o 7 w1).mono ?_
 rintro e w' ⟨rfl,rfl⟩
 go_wp2_with fail
 refine(HHK.o w1 HB1.o).mono ?_
 rintro e w2 ⟨rfl,hb2⟩
 have HB2:=I (HB1.o.trans (hb2.mono HB1.o.size))
 have HX2:=I (show w2.heap[w.heap.size]? =some (aG n) by rw[hb2.block _ (lt_of_block HX1.o)];exact HX1.o)
 clear hb2 HB1 HX1 d0 d1 d2 d3 d4 d5 d6 d7
 obtain⟨d0,d1,d2,d3,d4,d5,d6,d7⟩:=ak HX2.o
 go_wp2_with fail
 refine(HHF.o w2 HB2.o).mono ?_
 rintro e w3 ⟨rfl,hb3⟩
 have HB3:=I (HB2.o.trans (hb3.mono HB2.o.size))
 have HX3:=I (show w3.heap[w.heap.size]? =some (aG n) by rw[hb3.block _ (lt_of_block HX2.o)];exact HX2.o)
 clear hb3 HB2 HX2 d0 d1 d2 d3 d4 d5 d6 d7
 obtain⟨d0,d1,d2,d3,d4,d5,d6,d7⟩:=ak HX3.o
 go_wp2_with fail
 refine(HY.o 1 w3).mono ?_
 rintro e w' ⟨rfl,rfl⟩
 go_wp2_with fail
 refine(HSC.o w3 HB3.o).mono ?_
 rintro e w4 ⟨rfl,hb4⟩
 have HB4:=I (HB3.o.trans (hb4.mono HB3.o.size))
 have HX4:=I (show w4.heap[w.heap.size]? =some (aG n) by rw[hb4.block _ (lt_of_block HX3.o)];exact HX3.o)
 clear hb4 HB3 HX3 d0 d1 d2 d3 d4 d5 d6 d7
 obtain⟨d0,d1,d2,d3,d4,d5,d6,d7⟩:=ak HX4.o
 go_wp2_with fail
 refine(HY.o 0 w4).mono ?_
 rintro e w' ⟨rfl,rfl⟩
 have HC4:=I (HCK.o.ar HB4.o)
 have HBw:Hid (Below w0.heap.size w w4):=HB4.o.mono HW0.o.size
 go_wp2
 clear d0 d1 d2 d3 d4 d5 d6 d7
 have hsz2:=hsz
 go_loopw [69] (fun t wr=>∃(j:Nat) (s2:St),j<=ks.length/\t=.int .i64 j/\cG ks s=cG (ks.drop j) s2/\CK w0.heap.size wr cb s2/\(0<=s2.1/\s2.1+fj (ks.drop j)<=1000000/\s2.2.length+fj (ks.drop j)<=1000000)/\Below w0.heap.size w wr) (fun t _=>ks.length - (intOf t).toNat)
 case atStart=>exact⟨0,s,Nat.zero_le _,rfl,rfl,HC4.o,by have h:=hsz2;simp only[List.drop_zero];omega,HBw.o⟩
 case round=>
  obtain⟨j,s2,hj,rfl,hE,hck2,hbd,hb⟩:=hrel
  have HE:=I hE
  have HBr:=I hb
  have HCr:=I hck2
  obtain⟨w20,hw20⟩:∃w20,w20=wr:=⟨_,rfl⟩
  subst hw20
  clear hb hE hck2
  by_cases hlt:j<ks.length
  ·have e2:(j:Int)<(n.kl:Int):=by have:=HKL.o;omega
   have e4:(0:Int)<=(j:Int):=by omega
   rcases HK.o with⟨_,_,_,h00⟩|⟨x,hx,hkk,hmx,hcl⟩
   ·exact absurd h00 (by omega)
   ·obtain ⟨d0,d1,d2,d3,d4,d5,d6,d7⟩:=(hcl j hlt).below (HW0.o.trans HBr.o)
    have hszj:=mI hlt
    have hB3:Below w20.heap.size w20 (w20.alloc (aG (vs j))):=(J _ _).alloc (U _) _
    have HC:=I (HIH.o j hlt (w20.alloc (aG (vs j))) s2 (HW0.o.trans (HBr.o.trans (hB3.mono (Nat.le_trans HW0.o.size HBr.o.size)))) (HCr.o.ar hB3) (by omega))
    obtain⟨w21,hw21⟩:∃w21,w21=w20.alloc (aG (vs j)):=⟨_,rfl⟩
    have hbx:w21.heap[w20.heap.size]? =some (aG (vs j)):=by rw[hw21];exact aj _ _
    rw[<- hw21]at HC hB3
    have HB21:=I (HBr.o.trans (hB3.mono (Nat.le_trans HW0.o.size HBr.o.size)))
    obtain⟨b0,b1,b2,b3,b4,b5,b6,b7⟩:=ak hbx
    simp only[aG]at hw21
    have hjw:IntKind.i64.wrap ((j:Int)+1)=(j:Int)+1:=by rw[IntKind.wrap_i64];omega
    have HD:=I (kT hlt s2)
    have HBD:=I hbd
    have HSJ:=I hszj
    rw[hx]
    clear hcl hx hkk hB3 hbx hszj hbd
    go_wp2_with fail
    rw[<- hw21]
    clear hw21
    refine HC.o.mono ?_
    rintro e w22 ⟨hb22,⟨s3,hR,rfl,hck3⟩|⟨z,hR,rfl⟩⟩
    ·have HB22:=I (HB21.o.trans hb22)
     have HC3:=I hck3
     have hgr:=fO _ _ _ hR
     have HNx:Hid (cG ks s=cG (ks.drop (j+1)) s3):=by show _=_;rw[HE.o,HD.o,hR]
     have HBd3:Hid (0<=s3.1/\s3.1+fj (ks.drop (j+1))<=1000000/\s3.2.length+fj (ks.drop (j+1))<=1000000):=by have:=HBD.o;have:=HSJ.o;show _/\_/\_;omega
     clear hb22 hck3 hgr hR HC HBD
     go_wp2
     go_roundw
     case rel=>exact⟨j+1,s3,by omega,by go_num,HNx.o,HC3.o,HBd3.o,HB22.o⟩
     case measure=>simp[intOf];omega
    ·have HB22:=I (HB21.o.trans hb22)
     have hF:Hid (cP t s=.error z):=by show _=_;rw[HFin.o,HE.o,HD.o,hR]
     clear hb22 hR HC
     go_wp2
     exact⟨rfl,HB22.o,.inr ⟨z,hF.o,rfl⟩⟩
  ·have e2:¬(j:Int)<(n.kl:Int):=by have:=HKL.o;omega
   have hF:Hid (cP t s=.ok s2):=by
    show _=_
    rw[HFin.o,HE.o,List.drop_eq_nil_of_le (by omega)];rfl
   go_wp2
   go_end0
   exact⟨HBr.o,.inl ⟨s2,hF.o,rfl,HCr.o⟩⟩
theorem zp(w0:World)(n:NV)(set:RL)(ks:List Tr)(vs:Nat->NV)(h0:aV w0 n (.mk n.kind n.num n.least n.an n.bB n.fold set ks))(hk:bS w0 n.ka n.kl n.kc ks.length vs)(w:World)(hw0:Below w0.heap.size w0 w)(cb:Nat)(s:St)(hck:CK w0.heap.size w cb s)(hkd:1<=n.kind/\n.kind<=18)(hok:(cK (.mk n.kind n.num n.least n.an n.bB n.fold set ks)&&bO (.mk n.kind n.num n.least n.an n.bB n.fold set ks))=true)(hzs:bj set=0)(hk11:n.kind=11)(hnum:n.num=s.1+1)(hsz:0<=s.1/\s.1+fj ks+1<=1000000/\s.2.length+fj ks+1<=1000000)(ih:∀j (hj:j<ks.length) (W:World) (s:St),Below w0.heap.size w0 W->CK w0.heap.size W cb s->0<=s.1/\s.1+fL ks[j]<=1000000/\s.2.length+fL ks[j]<=1000000->Calls prog 34 #[.pointer (some ⟨cb,0,none⟩),cz (vs j)] W fun e w'=>lE w0.heap.size (cP ks[j] s) cb W e w'):Calls prog 34 #[.pointer (some ⟨cb,0,none⟩),cz n] w fun e w'=>lE w0.heap.size (cP (.mk n.kind n.num n.least n.an n.bB n.fold set ks) s) cb w e w':=by
 have h:=h0.ar hw0
 have hr:=h.open.2.2.2.2.2.2.1
 obtain⟨t,ht⟩:∃t,t=Tr.mk n.kind n.num n.least n.an n.bB n.fold set ks:=⟨_,rfl⟩
 have hset:t.set=set:=by rw[ht];rfl
 rw[<- ht]at h hr hok |-
 rw[<- hset]at hzs
 have hb:Below w.heap.size w (w.alloc (aG n)):=(J _ _).alloc (U _) _
 rw[Bool.and_eq_true]at hok
 have HHK:=I (fun W (hW:Below w.heap.size w W)=>cM n t W (h.ar hW))
 have HHF:=I (fun W (hW:Below w.heap.size w W)=>cw n t W (h.ar hW))
 have HHR:=I (fun W (hW:Below w.heap.size w W)=>cE n t W (h.ar hW))
 have HSC:=I (fun W (hW:Below w.heap.size w W)=>dA _ t.set W (hr.below hW))
 rw[hok.1]at HHK
 rw[hok.2]at HHF
 rw[hzs]at HSC
 have HY:=I (fun k W=>bQ k W)
 have HM:Hid (∀k W,Calls prog 53 #[.bool false,.int .i64 k] W fun e w'=>e=.panicked [{ v:=.iface 29 (.int .i64 k),recovered:=false }]/\W=w'):=fun k W=>cX k W
 have HKL:Hid (n.kl=ks.length):=hk.len
 have HK:=I hk
 have HW0:=I hw0
 obtain⟨w1,hw1⟩:∃w1,w1=w.alloc (aG n):=⟨_,rfl⟩
 have hbox:w1.heap[w.heap.size]? =some (aG n):=by rw[hw1];exact aj _ _
 rw[<- hw1]at hb
 have HB1:=I hb
 have HX1:=I hbox
 have HCK:=I hck
 obtain⟨d0,d1,d2,d3,d4,d5,d6,d7⟩:=ak hbox
 simp only[aG]at hw1
 obtain⟨g1,g2⟩:=hkd
 have HIH:=I ih
 have HFin:Hid (cP t s=cG ks (s.1+1,s.2)):=by
  show _=_
  rw[fp]
  have hn:cW t s=.ok (s.1+1,s.2):=by
   unfold cW
   have hkk:t.kind=n.kind:=by rw[ht];rfl
   have hnn:t.num=n.num:=by rw[ht];rfl
   rw[hkk,hnn,if_neg (by omega),if_neg (by rw[hok.1,hok.2];decide),if_neg (by omega)]
   rw[if_neg (by omega),if_pos hk11,if_pos hnum]
  rw[hn,ht];rfl
 have b12:(n.kind==12)=false:=by simp only[beq_eq_false_iff_ne,ne_eq];omega
 have b11:(n.kind==11)=true:=by simpa using hk11
 have HNu:=I hnum
 clear hk11 hnum
 clear h0 h hr hok hzs hset ht hbox hb hk hw0 hck ih
 go_enter func34,ntmps34
 go_wp2_with fail
 rw[<- hw1]
 clear hw1
 refine(HY.o 7 w1).mono ?_
 rintro e w' ⟨rfl,rfl⟩
 go_wp2_with fail
 refine(HHK.o w1 HB1.o).mono ?_
 rintro e w2 ⟨rfl,hb2⟩
 have HB2:=I (HB1.o.trans (hb2.mono HB1.o.size))
 have HX2:=I (show w2.heap[w.heap.size]? =some (aG n) by rw[hb2.block _ (lt_of_block HX1.o)];exact HX1.o)
 clear hb2 HB1 HX1 d0 d1 d2 d3 d4 d5 d6 d7
 obtain⟨d0,d1,d2,d3,d4,d5,d6,d7⟩:=ak HX2.o
 go_wp2_with fail
 refine(HHF.o w2 HB2.o).mono ?_
 rintro e w3 ⟨rfl,hb3⟩
 have HB3:=I (HB2.o.trans (hb3.mono HB2.o.size))
 have HX3:=I (show w3.heap[w.heap.size]? =some (aG n) by rw[hb3.block _ (lt_of_block HX2.o)];exact HX2.o)
 clear hb3 HB2 HX2 d0 d1 d2 d3 d4 d5 d6 d7
 obtain⟨d0,d1,d2,d3,d4,d5,d6,d7⟩:=ak HX3.o
 go_wp2_with fail
 refine(HY.o 1 w3).mono ?_
 rintro e w' ⟨rfl,rfl⟩
 go_wp2_with fail
 refine(HSC.o w3 HB3.o).mono ?_
 rintro e w4 ⟨rfl,hb4⟩
 have HB4:=I (HB3.o.trans (hb4.mono HB3.o.size))
 have HX4:=I (show w4.heap[w.heap.size]? =some (aG n) by rw[hb4.block _ (lt_of_block HX3.o)];exact HX3.o)
 clear hb4 HB3 HX3 d0 d1 d2 d3 d4 d5 d6 d7
 obtain⟨d0,d1,d2,d3,d4,d5,d6,d7⟩:=ak HX4.o
 go_wp2_with fail
 refine(HY.o 0 w4).mono ?_
 rintro e w' ⟨rfl,rfl⟩
 have HC4:=I (HCK.o.ar HB4.o)
 obtain⟨cv,c0,c1, -, -,cf,clt⟩:=HC4.o.cells
 have clw:cb<w.heap.size:=(HCK.o.cells).choose_spec.2.2.2.2.2
 have cn1:¬cb=w.heap.size:=by omega
 have cn2:¬w.heap.size=cb:=by omega
 have hgw:IntKind.i64.wrap (s.1+1)=s.1+1:=by rw[IntKind.wrap_i64];omega
 go_upto_region 10 with fail
 obtain⟨w5,hw5⟩:∃w5,w5=w4.setCell ⟨cb,0,none⟩ (.int .i64 (s.1+1)):=⟨_,rfl⟩
 have HC5:=I (HC4.o.aF (s.1+1))
 have HX5:Hid (w5.heap[w.heap.size]? =some (aG n)):=by show _=_;rw[hw5,Below.heap_setCell _ _ _ _ cn2];exact HX4.o
 have HBw:Hid (Below w0.heap.size w w5):=by show Below _ _ _;rw[hw5];exact(HB4.o.mono HW0.o.size).setCell (HCK.o.1) _
 rw[<- hw5]at HC5
 rw[<- hw5]
 clear hw5 d0 d1 d2 d3 d4 d5 d6 d7 c0 c1 cf clt HX4
 obtain⟨cv5,c0,c1, -, -,cf,clt⟩:=HC5.o.cells
 obtain⟨d0,d1,d2,d3,d4,d5,d6,d7⟩:=ak HX5.o
 simp only at c0
 have hnq:=HNu.o
 rw[hnq]at d3
 clear hnq
 go_quiet (first|(go_at_call 53;exact Calls.quiet_of_same (Bd _ _)))
 go_wp2
 clear d0 d1 d2 d3 d4 d5 d6 d7
 have hsz2:=hsz
 go_loopw [69] (fun t wr=>∃(j:Nat) (s2:St),j<=ks.length/\t=.int .i64 j/\cG ks (s.1+1,s.2)=cG (ks.drop j) s2/\CK w0.heap.size wr cb s2/\(0<=s2.1/\s2.1+fj (ks.drop j)<=1000000/\s2.2.length+fj (ks.drop j)<=1000000)/\Below w0.heap.size w wr) (fun t _=>ks.length - (intOf t).toNat)
 case atStart=>exact⟨0,(s.1+1,s.2),Nat.zero_le _,rfl,rfl,HC5.o.ar ⟨rfl,rfl,rfl,U _,fun _ _=>rfl⟩,by have h:=hsz2;simp only[List.drop_zero];omega,HBw.o.trans ⟨rfl,rfl,rfl,U _,fun _ _=>rfl⟩⟩
 case round=>
  obtain⟨j,s2,hj,rfl,hE,hck2,hbd,hb⟩:=hrel
  have HE:=I hE
  have HBr:=I hb
  have HCr:=I hck2
  obtain⟨w20,hw20⟩:∃w20,w20=wr:=⟨_,rfl⟩
  subst hw20
  clear hb hE hck2
  by_cases hlt:j<ks.length
  ·have e2:(j:Int)<(n.kl:Int):=by have:=HKL.o;omega
   have e4:(0:Int)<=(j:Int):=by omega
   rcases HK.o with⟨_,_,_,h00⟩|⟨x,hx,hkk,hmx,hcl⟩
   ·exact absurd h00 (by omega)
   ·obtain ⟨d0,d1,d2,d3,d4,d5,d6,d7⟩:=(hcl j hlt).below (HW0.o.trans HBr.o)
    have hszj:=mI hlt
    have hB3:Below w20.heap.size w20 (w20.alloc (aG (vs j))):=(J _ _).alloc (U _) _
    have HC:=I (HIH.o j hlt (w20.alloc (aG (vs j))) s2 (HW0.o.trans (HBr.o.trans (hB3.mono (Nat.le_trans HW0.o.size HBr.o.size)))) (HCr.o.ar hB3) (by omega))
    obtain⟨w21,hw21⟩:∃w21,w21=w20.alloc (aG (vs j)):=⟨_,rfl⟩
    have hbx:w21.heap[w20.heap.size]? =some (aG (vs j)):=by rw[hw21];exact aj _ _
    rw[<- hw21]at HC hB3
    have HB21:=I (HBr.o.trans (hB3.mono (Nat.le_trans HW0.o.size HBr.o.size)))
    obtain⟨b0,b1,b2,b3,b4,b5,b6,b7⟩:=ak hbx
    simp only[aG]at hw21
    have hjw:IntKind.i64.wrap ((j:Int)+1)=(j:Int)+1:=by rw[IntKind.wrap_i64];omega
    have HD:=I (kT hlt s2)
    have HBD:=I hbd
    have HSJ:=I hszj
    rw[hx]
    clear hcl hx hkk hB3 hbx hszj hbd
    go_wp2_with fail
    rw[<- hw21]
    clear hw21
    refine HC.o.mono ?_
    rintro e w22 ⟨hb22,⟨s3,hR,rfl,hck3⟩|⟨z,hR,rfl⟩⟩
    ·have HB22:=I (HB21.o.trans hb22)
     have HC3:=I hck3
     have hgr:=fO _ _ _ hR
     have HNx:Hid (cG ks (s.1+1,s.2)=cG (ks.drop (j+1)) s3):=by show _=_;rw[HE.o,HD.o,hR]
     have HBd3:Hid (0<=s3.1/\s3.1+fj (ks.drop (j+1))<=1000000/\s3.2.length+fj (ks.drop (j+1))<=1000000):=by have:=HBD.o;have:=HSJ.o;show _/\_/\_;omega
     clear hb22 hck3 hgr hR HC HBD
     go_wp2
     go_roundw
     case rel=>exact⟨j+1,s3,by omega,by go_num,HNx.o,HC3.o,HBd3.o,HB22.o⟩
     case measure=>simp[intOf];omega
    ·have HB22:=I (HB21.o.trans hb22)
     have hF:Hid (cP t s=.error z):=by show _=_;rw[HFin.o,HE.o,HD.o,hR]
     clear hb22 hR HC
     go_wp2
     exact⟨rfl,HB22.o,.inr ⟨z,hF.o,rfl⟩⟩
  ·have e2:¬(j:Int)<(n.kl:Int):=by have:=HKL.o;omega
   have hF:Hid (cP t s=.ok s2):=by
    show _=_
    rw[HFin.o,HE.o,List.drop_eq_nil_of_le (by omega)];rfl
   go_wp2
   go_end0
   exact⟨HBr.o,.inl ⟨s2,hF.o,rfl,HCr.o⟩⟩
theorem rk(w0:World)(n:NV)(set:RL)(ks:List Tr)(vs:Nat->NV)(h0:aV w0 n (.mk n.kind n.num n.least n.an n.bB n.fold set ks))(hk:bS w0 n.ka n.kl n.kc ks.length vs)(w:World)(hw0:Below w0.heap.size w0 w)(cb:Nat)(s:St)(hck:CK w0.heap.size w cb s)(hkd:1<=n.kind/\n.kind<=18)(hok:(cK (.mk n.kind n.num n.least n.an n.bB n.fold set ks)&&bO (.mk n.kind n.num n.least n.an n.bB n.fold set ks))=true)(hzs:bj set=0)(hk11:n.kind=11)(hnum:n.num≠s.1+1)(hsz:0<=s.1/\s.1+fj ks+1<=1000000):Calls prog 34 #[.pointer (some ⟨cb,0,none⟩),cz n] w fun e w'=>e=.panicked [{ v:=.iface 29 (.int .i64 4),recovered:=false }]/\Below w0.heap.size w w':=by
 have h:=h0.ar hw0
 have hr:=h.open.2.2.2.2.2.2.1
 obtain⟨t,ht⟩:∃t,t=Tr.mk n.kind n.num n.least n.an n.bB n.fold set ks:=⟨_,rfl⟩
 have hset:t.set=set:=by rw[ht];rfl
 rw[<- ht]at h hr hok
 rw[<- hset]at hzs
 have hb:Below w.heap.size w (w.alloc (aG n)):=(J _ _).alloc (U _) _
 rw[Bool.and_eq_true]at hok
 have HHK:=I (fun W (hW:Below w.heap.size w W)=>cM n t W (h.ar hW))
 have HHF:=I (fun W (hW:Below w.heap.size w W)=>cw n t W (h.ar hW))
 have HHR:=I (fun W (hW:Below w.heap.size w W)=>cE n t W (h.ar hW))
 have HSC:=I (fun W (hW:Below w.heap.size w W)=>dA _ t.set W (hr.below hW))
 rw[hok.1]at HHK
 rw[hok.2]at HHF
 rw[hzs]at HSC
 have HY:=I (fun k W=>bQ k W)
 have HM:Hid (∀k W,Calls prog 53 #[.bool false,.int .i64 k] W fun e w'=>e=.panicked [{ v:=.iface 29 (.int .i64 k),recovered:=false }]/\W=w'):=fun k W=>cX k W
 have HKL:Hid (n.kl=ks.length):=hk.len
 have HK:=I hk
 have HW0:=I hw0
 obtain⟨w1,hw1⟩:∃w1,w1=w.alloc (aG n):=⟨_,rfl⟩
 have hbox:w1.heap[w.heap.size]? =some (aG n):=by rw[hw1];exact aj _ _
 rw[<- hw1]at hb
 have HB1:=I hb
 have HX1:=I hbox
 have HCK:=I hck
 obtain⟨d0,d1,d2,d3,d4,d5,d6,d7⟩:=ak hbox
 simp only[aG]at hw1
 obtain⟨g1,g2⟩:=hkd
 have b12:(n.kind==12)=false:=by simp only[beq_eq_false_iff_ne,ne_eq];omega
 have b11:(n.kind==11)=true:=by simpa using hk11
 have hnb:(n.num==s.1+1)=false:=by simpa using hnum
 clear h0 h hr hok hzs hset ht hbox hb hk hw0 hck hk11 hnum
 go_enter func34,ntmps34
 go_wp2_with fail
 rw[<- hw1]
 clear hw1
 refine(HY.o 7 w1).mono ?_
 rintro e w' ⟨rfl,rfl⟩
 go_wp2_with fail
 refine(HHK.o w1 HB1.o).mono ?_
 rintro e w2 ⟨rfl,hb2⟩
 have HB2:=I (HB1.o.trans (hb2.mono HB1.o.size))
 have HX2:=I (show w2.heap[w.heap.size]? =some (aG n) by rw[hb2.block _ (lt_of_block HX1.o)];exact HX1.o)
 clear hb2 HB1 HX1 d0 d1 d2 d3 d4 d5 d6 d7
 obtain⟨d0,d1,d2,d3,d4,d5,d6,d7⟩:=ak HX2.o
 go_wp2_with fail
 refine(HHF.o w2 HB2.o).mono ?_
 rintro e w3 ⟨rfl,hb3⟩
 have HB3:=I (HB2.o.trans (hb3.mono HB2.o.size))
 have HX3:=I (show w3.heap[w.heap.size]? =some (aG n) by rw[hb3.block _ (lt_of_block HX2.o)];exact HX2.o)
 clear hb3 HB2 HX2 d0 d1 d2 d3 d4 d5 d6 d7
 obtain⟨d0,d1,d2,d3,d4,d5,d6,d7⟩:=ak HX3.o
 go_wp2_with fail
 refine(HY.o 1 w3).mono ?_
 rintro e w' ⟨rfl,rfl⟩
 go_wp2_with fail
 refine(HSC.o w3 HB3.o).mono ?_
 rintro e w4 ⟨rfl,hb4⟩
 have HB4:=I (HB3.o.trans (hb4.mono HB3.o.size))
 have HX4:=I (show w4.heap[w.heap.size]? =some (aG n) by rw[hb4.block _ (lt_of_block HX3.o)];exact HX3.o)
 clear hb4 HB3 HX3 d0 d1 d2 d3 d4 d5 d6 d7
 obtain⟨d0,d1,d2,d3,d4,d5,d6,d7⟩:=ak HX4.o
 go_wp2_with fail
 refine(HY.o 0 w4).mono ?_
 rintro e w' ⟨rfl,rfl⟩
 have HC4:=I (HCK.o.ar HB4.o)
 obtain⟨cv,c0,c1, -, -,cf,clt⟩:=HC4.o.cells
 have clw:cb<w.heap.size:=(HCK.o.cells).choose_spec.2.2.2.2.2
 have cn1:¬cb=w.heap.size:=by omega
 have cn2:¬w.heap.size=cb:=by omega
 have hgw:IntKind.i64.wrap (s.1+1)=s.1+1:=by rw[IntKind.wrap_i64];omega
 go_upto_region 10 with fail
 obtain⟨w5,hw5⟩:∃w5,w5=w4.setCell ⟨cb,0,none⟩ (.int .i64 (s.1+1)):=⟨_,rfl⟩
 have HC5:=I (HC4.o.aF (s.1+1))
 have HX5:Hid (w5.heap[w.heap.size]? =some (aG n)):=by show _=_;rw[hw5,Below.heap_setCell _ _ _ _ cn2];exact HX4.o
 have HBw:Hid (Below w0.heap.size w w5):=by show Below _ _ _;rw[hw5];exact(HB4.o.mono HW0.o.size).setCell (HCK.o.1) _
 rw[<- hw5]at HC5
 rw[<- hw5]
 clear hw5 d0 d1 d2 d3 d4 d5 d6 d7 c0 c1 cf clt HX4
 obtain⟨cv5,c0,c1, -, -,cf,clt⟩:=HC5.o.cells
 obtain⟨d0,d1,d2,d3,d4,d5,d6,d7⟩:=ak HX5.o
 simp only at c0
 clear HX5
 go_still_tail 7,(by kernel_rfl)
 go_wp2_with fail
 refine(HM.o 4 _).mono ?_
 rintro e w' ⟨rfl,rfl⟩
 go_wp2
 exact⟨rfl,rfl,HBw.o.trans ⟨rfl,rfl,rfl,U _,fun _ _=>rfl⟩⟩
theorem yP(w0:World)(n:NV)(set:RL)(ks:List Tr)(vs:Nat->NV)(h0:aV w0 n (.mk n.kind n.num n.least n.an n.bB n.fold set ks))(hk:bS w0 n.ka n.kl n.kc ks.length vs)(w:World)(hw0:Below w0.heap.size w0 w)(cb:Nat)(s:St)(hck:CK w0.heap.size w cb s)(hkd:1<=n.kind/\n.kind<=18)(hok:(cK (.mk n.kind n.num n.least n.an n.bB n.fold set ks)&&bO (.mk n.kind n.num n.least n.an n.bB n.fold set ks))=true)(hzs:bj set=0)(hk18:n.kind=18)(hsz:0<=s.1/\s.1+fj ks+1<=1000000/\s.2.length+fj ks+1<=1000000)(ih:∀j (hj:j<ks.length) (W:World) (s:St),Below w0.heap.size w0 W->CK w0.heap.size W cb s->0<=s.1/\s.1+fL ks[j]<=1000000/\s.2.length+fL ks[j]<=1000000->Calls prog 34 #[.pointer (some ⟨cb,0,none⟩),cz (vs j)] W fun e w'=>lE w0.heap.size (cP ks[j] s) cb W e w'):Calls prog 34 #[.pointer (some ⟨cb,0,none⟩),cz n] w fun e w'=>lE w0.heap.size (cP (.mk n.kind n.num n.least n.an n.bB n.fold set ks) s) cb w e w':=by
 have h:=h0.ar hw0
 have hr:=h.open.2.2.2.2.2.2.1
 obtain⟨t,ht⟩:∃t,t=Tr.mk n.kind n.num n.least n.an n.bB n.fold set ks:=⟨_,rfl⟩
 have hset:t.set=set:=by rw[ht];rfl
 rw[<- ht]at h hr hok |-
 rw[<- hset]at hzs
 have hb:Below w.heap.size w (w.alloc (aG n)):=(J _ _).alloc (U _) _
 rw[Bool.and_eq_true]at hok
 have HHK:=I (fun W (hW:Below w.heap.size w W)=>cM n t W (h.ar hW))
 have HHF:=I (fun W (hW:Below w.heap.size w W)=>cw n t W (h.ar hW))
 have HHR:=I (fun W (hW:Below w.heap.size w W)=>cE n t W (h.ar hW))
 have HSC:=I (fun W (hW:Below w.heap.size w W)=>dA _ t.set W (hr.below hW))
 rw[hok.1]at HHK
 rw[hok.2]at HHF
 rw[hzs]at HSC
 have HY:=I (fun k W=>bQ k W)
 have HM:Hid (∀k W,Calls prog 53 #[.bool false,.int .i64 k] W fun e w'=>e=.panicked [{ v:=.iface 29 (.int .i64 k),recovered:=false }]/\W=w'):=fun k W=>cX k W
 have HKL:Hid (n.kl=ks.length):=hk.len
 have HK:=I hk
 have HW0:=I hw0
 obtain⟨w1,hw1⟩:∃w1,w1=w.alloc (aG n):=⟨_,rfl⟩
 have hbox:w1.heap[w.heap.size]? =some (aG n):=by rw[hw1];exact aj _ _
 rw[<- hw1]at hb
 have HB1:=I hb
 have HX1:=I hbox
 have HCK:=I hck
 obtain⟨d0,d1,d2,d3,d4,d5,d6,d7⟩:=ak hbox
 simp only[aG]at hw1
 obtain⟨g1,g2⟩:=hkd
 have HIH:=I ih
 have HFin:Hid (cP t s=cG ks (s.1,s.2++[n.num])):=by
  show _=_
  rw[fp]
  have hn:cW t s=.ok (s.1,s.2++[n.num]):=by
   unfold cW
   have hkk:t.kind=n.kind:=by rw[ht];rfl
   have hnn:t.num=n.num:=by rw[ht];rfl
   rw[hkk,hnn,if_neg (by omega),if_neg (by rw[hok.1,hok.2];decide),if_neg (by omega)]
   rw[if_neg (by omega),if_neg (by omega),if_pos hk18]
  rw[hn,ht];rfl
 have b12:(n.kind==12)=false:=by simp only[beq_eq_false_iff_ne,ne_eq];omega
 have b11:(n.kind==11)=false:=by simp only[beq_eq_false_iff_ne,ne_eq];omega
 have b18:(n.kind==18)=true:=by simpa using hk18
 clear hk18
 clear h0 h hr hok hzs hset ht hbox hb hk hw0 hck ih
 go_enter func34,ntmps34
 go_wp2_with fail
 rw[<- hw1]
 clear hw1
 refine(HY.o 7 w1).mono ?_
 rintro e w' ⟨rfl,rfl⟩
 go_wp2_with fail
 refine(HHK.o w1 HB1.o).mono ?_
 rintro e w2 ⟨rfl,hb2⟩
 have HB2:=I (HB1.o.trans (hb2.mono HB1.o.size))
 have HX2:=I (show w2.heap[w.heap.size]? =some (aG n) by rw[hb2.block _ (lt_of_block HX1.o)];exact HX1.o)
 clear hb2 HB1 HX1 d0 d1 d2 d3 d4 d5 d6 d7
 obtain⟨d0,d1,d2,d3,d4,d5,d6,d7⟩:=ak HX2.o
 go_wp2_with fail
 refine(HHF.o w2 HB2.o).mono ?_
 rintro e w3 ⟨rfl,hb3⟩
 have HB3:=I (HB2.o.trans (hb3.mono HB2.o.size))
 have HX3:=I (show w3.heap[w.heap.size]? =some (aG n) by rw[hb3.block _ (lt_of_block HX2.o)];exact HX2.o)
 clear hb3 HB2 HX2 d0 d1 d2 d3 d4 d5 d6 d7
 obtain⟨d0,d1,d2,d3,d4,d5,d6,d7⟩:=ak HX3.o
 go_wp2_with fail
 refine(HY.o 1 w3).mono ?_
 rintro e w' ⟨rfl,rfl⟩
 go_wp2_with fail
 refine(HSC.o w3 HB3.o).mono ?_
 rintro e w4 ⟨rfl,hb4⟩
 have HB4:=I (HB3.o.trans (hb4.mono HB3.o.size))
 have HX4:=I (show w4.heap[w.heap.size]? =some (aG n) by rw[hb4.block _ (lt_of_block HX3.o)];exact HX3.o)
 clear hb4 HB3 HX3 d0 d1 d2 d3 d4 d5 d6 d7
 obtain⟨d0,d1,d2,d3,d4,d5,d6,d7⟩:=ak HX4.o
 go_wp2_with fail
 refine(HY.o 0 w4).mono ?_
 rintro e w' ⟨rfl,rfl⟩
 have HC4:=I (HCK.o.ar HB4.o)
 obtain⟨i0,hi,hz0,hz1,hz2⟩:=info_parts CQ
 obtain⟨hBc,cv,hcc,ho,hne⟩:=HC4.o
 obtain⟨ro,rc,rfl⟩:=ax ho
 have clw:cb<w.heap.size:=(HCK.o.cells).choose_spec.2.2.2.2.2
 have cn1:¬cb=w.heap.size:=by omega
 have cn2:¬w.heap.size=cb:=by omega
 have HBw4:Hid (Below w0.heap.size w w4):=HB4.o.mono HW0.o.size
 have hB4:w0.heap.size<=w4.heap.size:=Nat.le_trans HW0.o.size HB4.o.size
 have hx4:w.heap.size<w4.heap.size:=lt_of_block HX4.o
 have hnx:(Value.slice ro s.2.length rc).ownBlock≠some w.heap.size:=fun e=>by
  obtain⟨cur,hcur⟩:=tR ho e
  have h2:=HX4.o
  rw[hcur]at h2
  exact absurd (Obj.cells.inj (Option.some.inj h2)).2.1 (by decide)
 have c0:w4.cell? ⟨cb,0,none⟩=some (.int .i64 s.1):=by simp[World.cell?,hcc]
 have c1:w4.cell? ⟨cb,1,none⟩=some (.slice ro s.2.length rc):=by simp[World.cell?,hcc]
 have HO:=I ho
 have HCC:=I hcc
 have HNE:=I hne
 have HNX:=I hnx
 have HBc:=I hBc
 obtain⟨q,hq⟩:∃q,q=s.2.length:=⟨_,rfl⟩
 have HQ:=I hq
 have hq1:q+1<=1000000:=by omega
 rw[<- hq]at c1
 clear ho hcc hne hnx hBc hq
 have HOq:Hid (w4.ownsRow w0.heap.size 3 1 (.slice ro q rc) q (dm s.2)):=by show World.ownsRow _ _ _ _ _ _ _;rw[HQ.o];exact HO.o
 have HNXq:Hid ((Value.slice ro q rc).ownBlock≠some w.heap.size):=by show _≠_;rw[HQ.o];exact HNX.o
 have HC5q:Hid (∀(o:Obj) (w5:World),(w4.alloc o).drew.grownBy w5 (Value.slice ro q rc).ownBlock->w5.heap[cb]? =some (.cells #[.int .i64 s.1,.slice ro q rc] 79 (0,0))):=fun o w5 hg=>by
  have hq:=HQ.o
  subst hq
  rw[qC hg (lt_of_block HCC.o) HNE.o];exact HCC.o
 have c1a:=aE ((J _ w4).alloc (U _) (.cells #[.int .i64 n.num] 3)) (bb c1) c1
 have clt4:cb<w4.heap.size:=lt_of_block HCC.o
 go_upto_region 12 with fail
 go_region_law
  ((refine step_append_lies _ (by rfl) _ _ _ (by rfl) w0.heap.size 3 i0 _ 1 8 underlying36 hi hz0 hz1 hz2 rfl (by omega) (.slice ro q rc) q (dm s.2) (by rfl) ((HOq.o.alloc _).drew) ⟨w4.heap.size,0,none⟩ 1 1 [.int .i64 n.num] (by rfl) (by rfl) (World.news_of_block (cs:=#[.int .i64 n.num]) (t:=3) (fr:=(0,0)) (heap_alloc_new w4 _)) (by simp[Value.oneCell']) (by omega) (by unfold maxLen;omega) (by omega) (by first|(simp;done)|(simp;omega)) (w4.heap.size+1) (by simp) ?_;intro gg cap w5 hown1 hgrow hat hltt;have HG5:=I hgrow;have HA5:=I hat;have HOW:=I hown1;have hcc5:=HC5q.o _ _ hgrow;have k1:w5.cell? ⟨cb,1,none⟩=some (.slice ro q rc):=(by simp[World.cell?,hcc5]);have k2:∀o,w5.frozen? ⟨cb,o,none⟩=false:=(by intro o;simp[World.frozen?,hcc5]);clear hat hown1 hcc5))
 all_goals
  obtain⟨w6,hw6⟩:∃w6,w6=w5.setCell ⟨cb,1,none⟩ (.slice (some ⟨gg,0,none⟩) (q+1) cap):=⟨_,rfl⟩
  have HX6:Hid (w6.heap[w.heap.size]? =some (aG n)):=by show _=_;rw[hw6,Below.heap_setCell _ _ _ _ (fun e=>cn2 e),qC HG5.o hx4 HNXq.o];exact HX4.o
  have HC6:Hid (CK w0.heap.size w6 cb (s.1,s.2++[n.num])):=by
   have hq:=HQ.o
   subst hq
   show CK _ _ _ _
   rw[hw6]
   exact CK.again HBc.o HCC.o HNE.o HG5.o HOW.o HA5.o
  have HBw:Hid (Below w0.heap.size w w6):=by
   show Below _ _ _
   rw[hw6]
   exact(xn HOq.o HBw4.o hB4 HG5.o).setCell HBc.o _
  rw[<- hw6]
  clear hw6 d0 d1 d2 d3 d4 d5 d6 d7 c0 c1 c1a k1 k2
  obtain⟨d0,d1,d2,d3,d4,d5,d6,d7⟩:=ak HX6.o
  go_wp2
  clear d0 d1 d2 d3 d4 d5 d6 d7
  have hsz2:=hsz
  go_loopw [69] (fun t wr=>∃(j:Nat) (s2:St),j<=ks.length/\t=.int .i64 j/\cG ks (s.1,s.2++[n.num])=cG (ks.drop j) s2/\CK w0.heap.size wr cb s2/\(0<=s2.1/\s2.1+fj (ks.drop j)<=1000000/\s2.2.length+fj (ks.drop j)<=1000000)/\Below w0.heap.size w wr) (fun t _=>ks.length - (intOf t).toNat)
  case atStart=>exact⟨0,(s.1,s.2++[n.num]),Nat.zero_le _,rfl,rfl,HC6.o,by have h:=hsz2;simp only[List.drop_zero,List.length_append,List.length_cons,List.length_nil];omega,HBw.o⟩
  case round=>
   obtain⟨j,s2,hj,rfl,hE,hck2,hbd,hb⟩:=hrel
   have HE:=I hE
   have HBr:=I hb
   have HCr:=I hck2
   obtain⟨w20,hw20⟩:∃w20,w20=wr:=⟨_,rfl⟩
   subst hw20
   clear hb hE hck2
   by_cases hlt:j<ks.length
   ·have e2:(j:Int)<(n.kl:Int):=by have:=HKL.o;omega
    have e4:(0:Int)<=(j:Int):=by omega
    rcases HK.o with⟨_,_,_,h00⟩|⟨x,hx,hkk,hmx,hcl⟩
    ·exact absurd h00 (by omega)
    ·obtain ⟨d0,d1,d2,d3,d4,d5,d6,d7⟩:=(hcl j hlt).below (HW0.o.trans HBr.o)
     have hszj:=mI hlt
     have hB3:Below w20.heap.size w20 (w20.alloc (aG (vs j))):=(J _ _).alloc (U _) _
     have HC:=I (HIH.o j hlt (w20.alloc (aG (vs j))) s2 (HW0.o.trans (HBr.o.trans (hB3.mono (Nat.le_trans HW0.o.size HBr.o.size)))) (HCr.o.ar hB3) (by omega))
     obtain⟨w21,hw21⟩:∃w21,w21=w20.alloc (aG (vs j)):=⟨_,rfl⟩
     have hbx:w21.heap[w20.heap.size]? =some (aG (vs j)):=by rw[hw21];exact aj _ _
     rw[<- hw21]at HC hB3
     have HB21:=I (HBr.o.trans (hB3.mono (Nat.le_trans HW0.o.size HBr.o.size)))
     obtain⟨b0,b1,b2,b3,b4,b5,b6,b7⟩:=ak hbx
     simp only[aG]at hw21
     have hjw:IntKind.i64.wrap ((j:Int)+1)=(j:Int)+1:=by rw[IntKind.wrap_i64];omega
     have HD:=I (kT hlt s2)
     have HBD:=I hbd
     have HSJ:=I hszj
     rw[hx]
     clear hcl hx hkk hB3 hbx hszj hbd
     go_wp2_with fail
     rw[<- hw21]
     clear hw21
     refine HC.o.mono ?_
     rintro e w22 ⟨hb22,⟨s3,hR,rfl,hck3⟩|⟨z,hR,rfl⟩⟩
     ·have HB22:=I (HB21.o.trans hb22)
      have HC3:=I hck3
      have hgr:=fO _ _ _ hR
      have HNx:Hid (cG ks (s.1,s.2++[n.num])=cG (ks.drop (j+1)) s3):=by show _=_;rw[HE.o,HD.o,hR]
      have HBd3:Hid (0<=s3.1/\s3.1+fj (ks.drop (j+1))<=1000000/\s3.2.length+fj (ks.drop (j+1))<=1000000):=by have:=HBD.o;have:=HSJ.o;show _/\_/\_;omega
      clear hb22 hck3 hgr hR HC HBD
      go_wp2
      go_roundw
      case rel=>exact⟨j+1,s3,by omega,by go_num,HNx.o,HC3.o,HBd3.o,HB22.o⟩
      case measure=>simp[intOf];omega
     ·have HB22:=I (HB21.o.trans hb22)
      have hF:Hid (cP t s=.error z):=by show _=_;rw[HFin.o,HE.o,HD.o,hR]
      clear hb22 hR HC
      go_wp2
      exact⟨rfl,HB22.o,.inr ⟨z,hF.o,rfl⟩⟩
   ·have e2:¬(j:Int)<(n.kl:Int):=by have:=HKL.o;omega
    have hF:Hid (cP t s=.ok s2):=by
     show _=_
     rw[HFin.o,HE.o,List.drop_eq_nil_of_le (by omega)];rfl
    go_wp2
    go_end0
    exact⟨HBr.o,.inl ⟨s2,hF.o,rfl,HCr.o⟩⟩
theorem wT{w0:World}{n:NV}{t:Tr}(h:aV w0 n t):∀(cb:Nat) (w:World) (s:St),Below w0.heap.size w0 w->CK w0.heap.size w cb s->0<=s.1/\s.1+fL t<=1000000/\s.2.length+fL t<=1000000->Calls prog 34 #[.pointer (some ⟨cb,0,none⟩),cz n] w fun e w'=>lE w0.heap.size (cP t s) cb w e w':=by
 induction h with
 |mk n set ks vs hs hk hkids ih=>
  intro cb w s hw0 hck hsz
  have h0:aV w0 n (.mk n.kind n.num n.least n.an n.bB n.fold set ks):=.mk n set ks vs hs hk hkids
  have hN:=h0.ar hw0
  have hB:=hw0.size
  rw[fL]at hsz
  obtain⟨z1,z2,z3⟩:=hsz
  have hsz':0<=s.1/\s.1+fj ks+1<=1000000/\s.2.length+fj ks+1<=1000000:=⟨z1,by omega,by omega⟩
  have hih:∀j (hj:j<ks.length) (W:World) (s:St),Below w0.heap.size w0 W->CK w0.heap.size W cb s->0<=s.1/\s.1+fL ks[j]<=1000000/\s.2.length+fL ks[j]<=1000000->Calls prog 34 #[.pointer (some ⟨cb,0,none⟩),cz (vs j)] W fun e w'=>lE w0.heap.size (cP ks[j] s) cb W e w':=fun j hj W s=>ih j hj cb W s
  have err:∀z,cW (.mk n.kind n.num n.least n.an n.bB n.fold set ks) s=.error z->cP (.mk n.kind n.num n.least n.an n.bB n.fold set ks) s=.error z:=fun z hz=>by rw[fp,hz]
  by_cases hkd:1<=n.kind/\n.kind<=18
  ·by_cases hok:(cK (.mk n.kind n.num n.least n.an n.bB n.fold set ks)&&bO (.mk n.kind n.num n.least n.an n.bB n.fold set ks))=true
   ·by_cases hzs:bj set=0
    ·by_cases h12:n.kind=12
     ·by_cases hrep:mR (.mk n.kind n.num n.least n.an n.bB n.fold set ks)=0
      ·exact EW w0 n set ks vs h0 hk w hw0 cb s hck hkd hok hzs h12 hrep hsz' hih
      ·refine (wZ w0 n set ks vs h0 hk w hw0 cb s hck hkd hok hzs h12 hrep).mono ?_
       rintro e w' ⟨rfl,hb⟩
       refine⟨hb.mono hB,.inr ⟨_,err _ ?_,rfl⟩⟩
       unfold cW
       rw[if_neg (by show ¬ ¬(1<=n.kind/\n.kind<=18);omega),if_neg (by rw[hok];decide),if_neg (by show ¬bj set≠0;omega),if_pos (show(Tr.mk n.kind n.num n.least n.an n.bB n.fold set ks).kind=12 from h12),if_neg hrep]
     ·by_cases h11:n.kind=11
      ·by_cases hnum:n.num=s.1+1
       ·exact zp w0 n set ks vs h0 hk w hw0 cb s hck hkd hok hzs h11 hnum hsz' hih
       ·refine (rk w0 n set ks vs h0 hk w hw0 cb s hck hkd hok hzs h11 hnum ⟨hsz'.1,hsz'.2.1⟩).mono ?_
        rintro e w' ⟨rfl,hb⟩
        refine⟨hb,.inr ⟨_,err _ ?_,rfl⟩⟩
        unfold cW
        rw[if_neg (by show ¬ ¬(1<=n.kind/\n.kind<=18);omega),if_neg (by rw[hok];decide),if_neg (by show ¬bj set≠0;omega),if_neg (show ¬(Tr.mk n.kind n.num n.least n.an n.bB n.fold set ks).kind=12 from h12),if_pos (show(Tr.mk n.kind n.num n.least n.an n.bB n.fold set ks).kind=11 from h11),if_neg (show ¬(Tr.mk n.kind n.num n.least n.an n.bB n.fold set ks).num=s.1+1 from hnum)]
      ·by_cases h18:n.kind=18
       ·exact yP w0 n set ks vs h0 hk w hw0 cb s hck hkd hok hzs h18 hsz' hih
       ·exact xQ w0 n set ks vs h0 hk w hw0 cb s hck hkd hok hzs ⟨h12,h11,h18⟩ hsz' hih
    ·refine (Ek w0.heap.size n _ w cb s hN hB hck hkd hok hzs).mono ?_
     rintro e w' ⟨rfl,hb⟩
     refine⟨hb.mono hB,.inr ⟨_,err _ ?_,rfl⟩⟩
     unfold cW
     rw[if_neg (by show ¬ ¬(1<=n.kind/\n.kind<=18);omega),if_neg (by rw[hok];decide),if_pos (show bj (Tr.mk n.kind n.num n.least n.an n.bB n.fold set ks).set≠0 from hzs)]
   ·have hok':(cK (.mk n.kind n.num n.least n.an n.bB n.fold set ks)&&bO (.mk n.kind n.num n.least n.an n.bB n.fold set ks))=false:=by simpa using hok
    refine(CG w0.heap.size n _ w cb s hN hB hck hkd hok').mono ?_
    rintro e w' ⟨rfl,hb⟩
    refine⟨hb.mono hB,.inr ⟨_,err _ ?_,rfl⟩⟩
    unfold cW
    rw[if_neg (by show ¬ ¬(1<=n.kind/\n.kind<=18);omega),if_pos hok']
  ·refine (CI w0.heap.size n _ w cb s hN hB hck hkd).mono ?_
   rintro e w' ⟨rfl,hb⟩
   refine⟨hb.mono hB,.inr ⟨_,err _ ?_,rfl⟩⟩
   unfold cW
   rw[if_pos (show ¬(1<=(Tr.mk n.kind n.num n.least n.an n.bB n.fold set ks).kind/\(Tr.mk n.kind n.num n.least n.an n.bB n.fold set ks).kind<=18)from hkd)]
theorem eT{B e:Nat}{w:World}{v:Value}{n k:Nat}{xs:List Value}(h:w.ownsRow B e k v n xs)(hn:1<=n):∃g cap,v=.slice (some ⟨g,0,none⟩) n cap:=by
 rcases h.2 with⟨rfl,rfl⟩|⟨g,cap,cur,rfl,_⟩
 ·omega
 ·exact⟨_,_,rfl⟩
def yl(z:Int):Ending:=if z=0 then .returned (.tuple #[])else .panicked [{ v:=.iface 29 (.int .i64 z),recovered:=false }]
theorem dP:yl 0=.returned (.tuple #[]):=rfl
theorem dZ{z:Int}(h:z≠0):yl z=.panicked [{ v:=.iface 29 (.int .i64 z),recovered:=false }]:=if_neg h
def cT(s:St)(g:Int):Int:=if 20<s.1 then 2 else if s.1=g then 0 else 4
theorem mF(k:Int)(W:World):Calls prog 53 #[.bool false,.int .i64 k] W fun e w'=>e=.panicked [{ v:=.iface 29 (.int .i64 k),recovered:=false }]/\W=w':=cX k W
theorem pW(B:Nat)(cb:Nat)(s:St)(g:Int)(w:World)(h:CK B w cb s):Calls prog 35 #[.pointer (some ⟨cb,0,none⟩),.int .i64 g] w fun e w'=>e=yl (cT s g)/\w=w':=by
 obtain⟨v,c0,c1, -, -,cf,clt⟩:=h.cells
 clear h
 by_cases h1:20<s.1
 ·have hE:cT s g=2:=by unfold cT;rw[if_pos h1]
  rw[hE,dZ (by decide)]
  have h2:decide (s.1<=20)=false:=decide_eq_false (by omega)
  clear hE
  go_enter func35,ntmps35
  go_wp2_with fail
  refine(mF 2 w).mono ?_
  rintro e w' ⟨rfl,rfl⟩
  go_wp2
  exact⟨rfl,rfl,rfl⟩
 ·have h2:s.1<=20:=by omega
  by_cases h3:s.1=g
  ·have hE:cT s g=0:=by unfold cT;rw[if_neg h1,if_pos h3]
   rw[hE,dP]
   have h4:(s.1==g)=true:=by simpa using h3
   clear hE h1 h3
   go_enter func35,ntmps35
   go_wp2_with fail
   refine(bQ 2 w).mono ?_
   rintro e w' ⟨rfl,rfl⟩
   go_wp2_with fail
   refine(bQ 4 w).mono ?_
   rintro e w' ⟨rfl,rfl⟩
   go_wp2
   go_end0
   exact⟨rfl,rfl⟩
  ·have hE:cT s g=4:=by unfold cT;rw[if_neg h1,if_neg h3]
   rw[hE,dZ (by decide)]
   have h4:(s.1==g)=false:=by simpa using h3
   clear hE h1 h3
   go_enter func35,ntmps35
   go_wp2_with fail
   refine(bQ 2 w).mono ?_
   rintro e w' ⟨rfl,rfl⟩
   go_wp2_with fail
   refine(mF 4 w).mono ?_
   rintro e w' ⟨rfl,rfl⟩
   go_wp2
   exact⟨rfl,rfl,rfl⟩
def fG(g a:Int):Int:=if 1<=a/\a<=g then 0 else 5
theorem iy(B:Nat)(cb:Nat)(s:St)(a:Int)(w:World)(h:CK B w cb s):Calls prog 58 #[.pointer (some ⟨cb,0,none⟩),.int .i64 a] w fun e w'=>e=yl (fG s.1 a)/\w=w':=by
 obtain⟨v,c0,c1, -, -,cf,clt⟩:=h.cells
 clear h
 by_cases h1:1<=a
 ·by_cases h2:a<=s.1
  ·have hE:fG s.1 a=0:=by unfold fG;rw[if_pos ⟨h1,h2⟩]
   rw[hE,dP]
   clear hE
   go_enter func58,ntmps58
   go_wp2_with fail
   refine(bQ 5 w).mono ?_
   rintro e w' ⟨rfl,rfl⟩
   go_wp2
   go_end0
   exact⟨rfl,rfl⟩
  ·have hE:fG s.1 a=5:=by unfold fG;rw[if_neg (by omega)]
   rw[hE,dZ (by decide)]
   have h4:decide (a<=s.1)=false:=decide_eq_false (by omega)
   clear hE h2
   go_enter func58,ntmps58
   go_wp2_with fail
   refine(mF 5 w).mono ?_
   rintro e w' ⟨rfl,rfl⟩
   go_wp2
   exact⟨rfl,rfl,rfl⟩
 ·have hE:fG s.1 a=5:=by unfold fG;rw[if_neg (by omega)]
  rw[hE,dZ (by decide)]
  clear hE
  go_enter func58,ntmps58
  go_wp2_with fail
  refine(mF 5 w).mono ?_
  rintro e w' ⟨rfl,rfl⟩
  go_wp2
  exact⟨rfl,rfl,rfl⟩
def bX(g:Int):List Int->Int
 |[]=>0
 |a::l=>if fG g a=0 then bX g l else 5
theorem iB{g:Int}{l:List Int}{j:Nat}(hj:j<l.length):bX g (l.drop j)=if fG g l[j]=0 then bX g (l.drop (j+1))else 5:=by
 rw[List.drop_eq_getElem_cons hj,bX]
theorem nD{B n c g:Nat}{w:World}{L:List Int}(h:w.ownsRow B 3 1 (.slice (some ⟨g,0,none⟩) n c) n (dm L)){j:Nat}(hj:j<L.length):w.cell? ⟨g,j,none⟩=some (.int .i64 L[j]):=by
 have:=h.cellAt j (by rw[<- h.1];simp[dm];omega)
 rw[this]
 unfold dm
 rw[List.getElem?_map,List.getElem?_eq_getElem hj]
 rfl
theorem vf(B:Nat)(cb:Nat)(s:St)(w:World)(h:CK B w cb s)(hl:s.2.length<=1000000):Calls prog 36 #[.pointer (some ⟨cb,0,none⟩),.slice none 0 0] w fun e w'=>e=yl (bX s.1 s.2)/\w=w':=by
 obtain⟨v,c0,c1,ho, -,cf,clt⟩:=h.cells
 obtain⟨ro,rc,rfl⟩:=ax ho
 have HNm:=I (fun a=>iy B cb s a w h)
 have HO:=I ho
 obtain⟨q,hq⟩:∃q,q=s.2.length:=⟨_,rfl⟩
 have HQ:=I hq
 rw[<- hq]at c1 hl
 obtain⟨A,hA⟩:∃A,A=bX s.1 s.2:=⟨_,rfl⟩
 have HA:=I hA
 rw[<- hA]
 clear h ho hq hA
 by_cases hz:A=0
 ·rw [hz, dP]
  have HZ:=I hz
  clear hz
  go_enter func36,ntmps36
  go_wp2
  go_loopw [13] (fun t wr=>∃(j:Nat),j<=q/\t=.int .i64 j/\bX s.1 (s.2.drop j)=A/\wr=w) (fun t _=>q - (intOf t).toNat)
  case atStart=>exact⟨0,Nat.zero_le _,rfl,HA.o.symm,rfl⟩
  case round=>
   obtain⟨j,hj,rfl,hE,hwr⟩:=hrel
   have hwr2:=hwr.symm
   subst hwr2
   have HE:=I hE
   clear hE
   by_cases hlt:j<q
   ·have hjl:j<s.2.length:=by have:=HQ.o;omega
    have e1:(j:Int)<(q:Int):=by omega
    have e0:(0:Int)<=(j:Int):=by omega
    have hD:=iB (g:=s.1) hjl
    have hn0:fG s.1 s.2[j]=0:=by
     by_cases hh:fG s.1 s.2[j]=0
     ·exact hh
     ·exfalso
      have h1:=HE.o
      rw[hD,if_neg hh,HZ.o]at h1
      exact absurd h1 (by decide)
    have HNx:Hid (bX s.1 (s.2.drop (j+1))=A):=by show _=_;rw[<- HE.o,hD,if_pos hn0]
    have hrow:=HO.o
    rw[<- HQ.o]at hrow
    obtain⟨gg,cap,hv⟩:=eT hrow (by omega)
    obtain⟨rfl⟩:ro=some ⟨gg,0,none⟩:=by cases hv;rfl
    have cj:=nD hrow hjl
    have HC:=I (HNm.o s.2[j])
    rw[hn0,dP]at HC
    obtain⟨a,ha⟩:∃a,a=s.2[j]:=⟨_,rfl⟩
    rw[<- ha]at cj HC
    have hjw:IntKind.i64.wrap ((j:Int)+1)=(j:Int)+1:=by rw[IntKind.wrap_i64];omega
    clear hD hn0 hrow hv ha hjl
    go_wp2_with fail
    refine HC.o.mono ?_
    rintro e w' ⟨rfl,rfl⟩
    go_wp2
    go_roundw
    case rel=>exact⟨j+1,by omega,by go_num,HNx.o,by first|rfl|trivial⟩
    case measure=>simp[intOf];omega
   ·have e1:¬(j:Int)<(q:Int):=by omega
    go_wp2
    go_loop [23] (fun i=>i=.int .i64 0) (fun _=>0)
    case atStart=>rfl
    case round=>
     obtain rfl:=hrel
     go_wp2
     go_end0
     exact⟨rfl,rfl⟩
 ·have HZ:=I hz
  have h5:A=5:=by
   have key:∀l:List Int,bX s.1 l=0\/bX s.1 l=5:=by
    intro l
    induction l with
    |nil=>exact .inl rfl
    |cons a l ih=>rw[bX];split;exact ih;exact .inr rfl
   have:=key s.2
   rw[<- HA.o]at this
   omega
  have H5:=I h5
  rw[h5,dZ (by decide)]
  clear hz h5
  go_enter func36,ntmps36
  go_wp2
  go_loopw [13] (fun t wr=>∃(j:Nat),j<=q/\t=.int .i64 j/\bX s.1 (s.2.drop j)=A/\wr=w) (fun t _=>q - (intOf t).toNat)
  case atStart=>exact⟨0,Nat.zero_le _,rfl,HA.o.symm,rfl⟩
  case round=>
   obtain⟨j,hj,rfl,hE,hwr⟩:=hrel
   have hwr2:=hwr.symm
   subst hwr2
   have HE:=I hE
   clear hE
   by_cases hlt:j<q
   ·have hjl:j<s.2.length:=by have:=HQ.o;omega
    have e1:(j:Int)<(q:Int):=by omega
    have e0:(0:Int)<=(j:Int):=by omega
    have HD:=I (iB (g:=s.1) hjl)
    have hrow:=HO.o
    rw[<- HQ.o]at hrow
    obtain⟨gg,cap,hv⟩:=eT hrow (by omega)
    obtain⟨rfl⟩:ro=some ⟨gg,0,none⟩:=by cases hv;rfl
    have cj:=nD hrow hjl
    have HC:=I (HNm.o s.2[j])
    have hjw:IntKind.i64.wrap ((j:Int)+1)=(j:Int)+1:=by rw[IntKind.wrap_i64];omega
    by_cases hn0:fG s.1 s.2[j]=0
    ·have HNx:Hid (bX s.1 (s.2.drop (j+1))=A):=by show _=_;rw[<- HE.o,HD.o,if_pos hn0]
     rw[hn0,dP]at HC
     obtain⟨a,ha⟩:∃a,a=s.2[j]:=⟨_,rfl⟩
     rw[<- ha]at cj HC
     clear hn0 hrow hv ha hjl HD
     go_wp2_with fail
     refine HC.o.mono ?_
     rintro e w' ⟨rfl,rfl⟩
     go_wp2
     go_roundw
     case rel=>exact⟨j+1,by omega,by go_num,HNx.o,by first|rfl|trivial⟩
     case measure=>simp[intOf];omega
    ·have hn5:fG s.1 s.2[j]=5:=by unfold fG at hn0 |-;split;rename_i h;rw[if_pos h]at hn0;exact absurd rfl hn0;rfl
     rw[hn5,dZ (by decide)]at HC
     obtain⟨a,ha⟩:∃a,a=s.2[j]:=⟨_,rfl⟩
     rw[<- ha]at cj HC
     clear hn0 hn5 hrow hv ha hjl HD
     go_wp2_with fail
     refine HC.o.mono ?_
     rintro e w' ⟨rfl,rfl⟩
     go_wp2
     exact⟨rfl,rfl,rfl⟩
   ·exfalso
    have h1:=HE.o
    rw[List.drop_eq_nil_of_le (by have:=HQ.o;omega)]at h1
    exact HZ.o h1.symm
theorem kK(w:World):Calls prog 37 #[.slice none 0 0] w fun e w'=>e=.returned (.tuple #[])/\w=w':=by
 go_enter func37,ntmps37
 go_wp2
 go_loop [11] (fun i=>i=.int .i64 0) (fun _=>0)
 case atStart=>rfl
 case round=>
  obtain rfl:=hrel
  go_wp2
  go_loop [22] (fun i=>i=.int .i64 0) (fun _=>0)
  case atStart=>rfl
  case round=>
   obtain rfl:=hrel
   go_wp2
   go_loop [8] (fun i=>i=.int .i64 1) (fun _=>0)
   case atStart=>rfl
   case round=>
    obtain rfl:=hrel
    go_wp2
    go_end0
    exact⟨rfl,rfl⟩
theorem cell_of_one{w:World}{m:Nat}{v:Value}{e:TypeId}{fr:Nat×Nat}(h:w.heap[m]? =some (.cells #[v] e fr)):w.cell? ⟨m,0,none⟩=some v:=by simp[World.cell?,h]
theorem free_of_one{w:World}{m:Nat}{v:Value}{e:TypeId}(h:w.heap[m]? =some (.cells #[v] e (0,0)))(o:Nat):w.frozen? ⟨m,o,none⟩=false:=by simp[World.frozen?,h]
theorem iC(p:Addr)(w:World):
  CallsD prog 33 #[.pointer (some p)] .returning w fun e u' w'=>e=.returned (.tuple #[])/\u'=.returning/\w'=w:=by
 have hnn:∀w,(binOp .neq 20 .nilIface .nilIface).run prog w=.ok (.bool false) w:=fun w=>by kernel_rfl
 refine callsD_of_wpS func33 rfl fun c₀ cs hu=>?_
 apply wpS_seq
 apply wpS_region
 simp[wpOpsS,go_sem,recoverD,hu,ntmps33,Exit.thenS]
 apply wpS_seq
 apply wpS_region
 simp[wpOpsS,go_sem,hnn,Exit.thenS]
 refine wpS_cond (t:=false) (by simp[Act.eval,Array.replicate]) ?_
 simp only[Bool.false_eq_true,if_false]
 refine wpS_of_wp (wp_skip ?_)
 cases c₀
 simp_all [bodyPostS,results,results33]
theorem ix(m:Nat)(z a:Int)(w:World)(hm:w.heap[m]? =some (.cells #[.int .i64 a] 29 (0,0))):
  CallsD prog 33 #[.pointer (some ⟨m,0,none⟩)] (.panicking [{ v:=.iface 29 (.int .i64 z),recovered:=false }]) w fun e u' w'=>e=.returned (.tuple #[])/\u'=.panicking [{ v:=.iface 29 (.int .i64 z),recovered:=true }]/\w'=w.setCell ⟨m,0,none⟩ (.int .i64 z):=by
 have hta:∀w,(Instr.typeAssert (.iface 29 (.int .i64 z)) 20 29 false).run prog w=.ok (.int .i64 z) w:=fun w=>by kernel_rfl
 have hnn:∀x w,(binOp .neq 20 (.iface 29 x) .nilIface).run prog w=.ok (.bool true) w:=fun x w=>by rfl
 refine callsD_of_wpS func33 rfl fun c₀ cs hu=>?_
 apply wpS_seq
 apply wpS_region
 simp[wpOpsS,go_sem,recoverD,hu,ntmps33,Exit.thenS]
 apply wpS_seq
 apply wpS_region
 simp[wpOpsS,go_sem,hnn,Exit.thenS]
 refine wpS_cond (t:=true) (by simp[Act.eval,Array.replicate]) ?_
 simp only[if_true]
 refine wpS_of_wp ?_
 have cm:=cell_of_one hm
 have fm:=free_of_one hm
 go_wp2
 exact⟨rfl,_,rfl,.tuple #[],by simp[results,results33],rfl,rfl,rfl⟩
def dD(t:Tr)(g:Int):Int:=match cP t (0,[])with
 | .error z=>z
 | .ok s=>if cT s g≠0 then cT s g else bX s.1 s.2
abbrev yB(n:NV)(g:Int):Value:=.agg #[.int .i64 n.kind,.slice n.sa n.sl n.sc,.slice n.ka n.kl n.kc,.int .i64 n.num,.int .i64 n.least,.int .i64 n.an,.int .i64 n.bB,.bool n.fold,.int .i64 g,.slice none 0 0]
abbrev j6(n:NV)(g:Int):Obj:=.cells #[.int .i64 n.kind,.slice n.sa n.sl n.sc,.slice n.ka n.kl n.kc,.int .i64 n.num,.int .i64 n.least,.int .i64 n.an,.int .i64 n.bB,.bool n.fold,.int .i64 g,.slice none 0 0] 28
abbrev j7(z:Int):Obj:=.cells #[.int .i64 z] 29
theorem fX{w:World}{k:Nat}{n:NV}{g:Int}(h:w.heap[k]? =some (j6 n g)):aL w ⟨k,0,none⟩ n/\w.cell? ⟨k,8,none⟩=some (.int .i64 g)/\w.cell? ⟨k,9,none⟩=some (.slice none 0 0):=by
 refine⟨⟨?_,?_,?_,?_,?_,?_,?_,?_⟩,?_,?_⟩<;>simp[World.cell?,h]
theorem one_setCell{w:World}{m:Nat}{v u:Value}{e:TypeId}{fr:Nat×Nat}(h:w.heap[m]? =some (.cells #[v] e fr)):(w.setCell ⟨m,0,none⟩ u).heap[m]? =some (.cells #[u] e fr):=by rw[bd h];rfl
theorem gx{tmps:Array Value}{W:World}{N:Nat}{z:Int}{R:Ending->World->Prop}(h2:tmps[2]? =some (.pointer (some ⟨N,0,none⟩)))(q1:W.heap[N]? =some (j7 z))(hF:R (.returned (.int .i64 z)) W):
  bodyPostD prog Tryz.f24 R Exit.ret { tmps:=tmps,defers:=[{ target:=Target.fn (Fn.func 33) #[.pointer (some ⟨N,0,none⟩)],args:=#[] }] } W:=by
 have c1:=cell_of_one q1
 refine leaves_cons (f:=33) (args:=#[.pointer (some ⟨N,0,none⟩)]) (by simp) (by simp[go_sem]) ?_
 refine(iC _ _).mono ?_
 rintro e u' w2 ⟨rfl,rfl,rfl⟩
 simp[Leaves,settle,results,results24,go_sem,h2,c1]
 exact hF
theorem fs{tmps:Array Value}{W:World}{N:Nat}{a z:Int}{R:Ending->World->Prop}(h2:tmps[2]? =some (.pointer (some ⟨N,0,none⟩)))(q1:W.heap[N]? =some (j7 a))(hF:R (.returned (.int .i64 z)) (W.setCell ⟨N,0,none⟩ (.int .i64 z))):
  bodyPostD prog Tryz.f24 R (Exit.panic [{ v:=.iface 29 (.int .i64 z),recovered:=false }]) { tmps:=tmps,defers:=[{ target:=Target.fn (Fn.func 33) #[.pointer (some ⟨N,0,none⟩)],args:=#[] }] } W:=by
 refine leaves_cons (f:=33) (args:=#[.pointer (some ⟨N,0,none⟩)]) (by simp) (by simp[go_sem]) ?_
 refine(ix N z a W q1).mono ?_
 rintro e u' w2 ⟨rfl,rfl,rfl⟩
 have c1:=cell_of_one (one_setCell (u:=.int .i64 z) q1)
 simp[Leaves,settle,results,results24,go_sem,h2,c1]
 exact hF
theorem A2(n:NV)(t:Tr)(g:Int)(w:World)(h:aV w n t)(hsz:fL t<=1000):Calls prog 24 #[yB n g] w fun e w'=>e=.returned (.int .i64 (dD t g))/\Below w.heap.size w w':=by
 have hmf:∀(fn:Fn) (first cap:Array Value) (w:World),(Instr.makeFunc fn first cap).run prog w=.ok (.func fn first cap) w:=fun _ _ _ _=>rfl
 have hb2:Below w.heap.size w ((w.alloc (j6 n g)).alloc (j7 0)):=((J _ w).alloc (U _) _).alloc (by simp) _
 obtain⟨w2,hw2⟩:∃w2,w2=(w.alloc (j6 n g)).alloc (j7 0):=⟨_,rfl⟩
 have hs2:w2.heap.size=w.heap.size+2:=by rw[hw2];simp
 have hN2:aV w2 n t:=by rw[hw2];exact h.ar hb2
 have hp2:w2.heap[w.heap.size]? =some (j6 n g):=by rw[hw2];exact ba (aj _ _)
 have he2:w2.heap[w.heap.size+1]? =some (j7 0):=by rw[hw2];exact bp _ _ (by simp)
 have hb3:Below w2.heap.size w2 (w2.alloc (.cells #[.int .i64 0,.slice none 0 0] 79)):=(J _ _).alloc (U _) _
 have hck:CK w2.heap.size (w2.alloc (.cells #[.int .i64 0,.slice none 0 0] 79)) (w.heap.size+2) (0,[]):=
  ⟨by omega,_,bp _ _ (by omega),⟨rfl,.inl ⟨rfl,rfl⟩⟩,by intro e;cases e⟩
 obtain⟨w3,hw3⟩:∃w3,w3=w2.alloc (.cells #[.int .i64 0,.slice none 0 0] 79):=⟨_,rfl⟩
 rw[<- hw3]at hb3 hck
 have HT:=I (wT hN2 (w.heap.size+2) w3 (0,[]) hb3 hck ⟨by simp,by simp;omega,by simp;omega⟩)
 have HB2:Hid (Below w.heap.size w w2):=by show Below _ _ _;rw[hw2];exact hb2
 have HB3:=I hb3
 have HP2:=I hp2
 have HE2:=I he2
 have HS2:=I hs2
 have hGr:∀s,cP t (0,[])=.ok s->s.2.length<=1000000:=fun s hs=>by have:=fO _ _ _ hs;simp at this;omega
 have HGr:=I hGr
 obtain⟨P3c,P3g,P3n⟩:=fX (show w3.heap[w.heap.size]? =some (j6 n g) by rw[hb3.block _ (by omega)];exact hp2)
 obtain⟨d0,d1,d2,d3,d4,d5,d6,d7⟩:=P3c
 simp only[j6,j7]at hw2
 subst hw2
 clear h hb2 hs2 hN2 hp2 he2 hb3 hck hsz hGr
 simp only[yB]
 go_enter_defers func24,ntmps24
 go_wp2_with fail
 rw[<- hw3]
 clear hw3 d0 d1 d2 d3 d4 d5 d6 d7 P3g P3n
 refine HT.o.mono ?_
 rintro e w4 ⟨hb4,⟨s,hR,rfl,hck4⟩|⟨z,hR,rfl⟩⟩
 ·have hb4w:=HB3.o.trans hb4
  have HP4:Hid (w4.heap[w.heap.size]? =some (j6 n g)):=by show _=_;rw[hb4w.block _ (by have:=HS2.o;omega)];exact HP2.o
  have HE4:Hid (w4.heap[w.heap.size+1]? =some (j7 0)):=by show _=_;rw[hb4w.block _ (by have:=HS2.o;omega)];exact HE2.o
  have HBw:Hid (Below w.heap.size w w4):=HB2.o.trans (hb4w.mono HB2.o.size)
  have HCK:=I hck4
  have HR:=I hR
  have hln:=HGr.o s hR
  obtain⟨P4c,P4g,P4n⟩:=fX HP4.o
  have HCo:=I (pW _ _ s g w4 hck4)
  have HNu:=I (vf _ _ s w4 hck4 hln)
  have ce:=cell_of_one HE4.o
  have cf:=free_of_one HE4.o
  clear hb4 hck4 hR hln hb4w P4c HT HGr HB2 HB3 HP2 HE2 HS2
  by_cases hc:cT s g=0
  ·rw [hc,dP]at HCo
   by_cases hn:bX s.1 s.2=0
   ·have hF:Hid (dD t g=0):=by show _=_;unfold dD;rw[HR.o];simp only;rw[if_neg (by omega),hn]
    rw[hn,dP]at HNu
    clear hc hn
    go_wp2_with fail
    refine HCo.o.mono ?_
    rintro e w' ⟨rfl,rfl⟩
    go_wp2_with fail
    refine HNu.o.mono ?_
    rintro e w' ⟨rfl,rfl⟩
    go_wp2_with fail
    refine(kK w4).mono ?_
    rintro e w' ⟨rfl,rfl⟩
    go_wp2
    refine gx (N:=w.heap.size+1) (z:=0) rfl (one_setCell HE4.o) ⟨by rw[hF.o],HBw.o.setCell (by show w.heap.size<=w.heap.size+1;omega) _⟩
   ·have hF:Hid (dD t g=bX s.1 s.2):=by show _=_;unfold dD;rw[HR.o];simp only;rw[if_neg (by omega)]
    rw[dZ hn]at HNu
    obtain⟨z,hz⟩:∃z,z=bX s.1 s.2:=⟨_,rfl⟩
    rw[<- hz]at HNu hF
    clear hc hn hz
    go_wp2_with fail
    refine HCo.o.mono ?_
    rintro e w' ⟨rfl,rfl⟩
    go_wp2_with fail
    refine HNu.o.mono ?_
    rintro e w' ⟨rfl,rfl⟩
    go_wp2
    exact fs (N:=w.heap.size+1) (a:=0) (z:=z) rfl HE4.o ⟨by rw[hF.o],HBw.o.setCell (by show w.heap.size<=w.heap.size+1;omega) _⟩
  ·have hF:Hid (dD t g=cT s g):=by show _=_;unfold dD;rw[HR.o];simp only;rw[if_pos hc]
   rw[dZ hc]at HCo
   obtain⟨z,hz⟩:∃z,z=cT s g:=⟨_,rfl⟩
   rw[<- hz]at HCo hF
   clear hc hz
   go_wp2_with fail
   refine HCo.o.mono ?_
   rintro e w' ⟨rfl,rfl⟩
   go_wp2
   exact fs (N:=w.heap.size+1) (a:=0) (z:=z) rfl HE4.o ⟨by rw[hF.o],HBw.o.setCell (by show w.heap.size<=w.heap.size+1;omega) _⟩
 ·have hb4w:=HB3.o.trans hb4
  have HE4:Hid (w4.heap[w.heap.size+1]? =some (j7 0)):=by show _=_;rw[hb4w.block _ (by have:=HS2.o;omega)];exact HE2.o
  have HBw:Hid (Below w.heap.size w w4):=HB2.o.trans (hb4w.mono HB2.o.size)
  have hF:Hid (dD t g=z):=by show _=_;unfold dD;rw[hR]
  clear hb4 hR hb4w HT HGr HB2 HB3 HP2 HE2 HS2
  go_wp2
  exact fs (N:=w.heap.size+1) (a:=0) (z:=z) rfl HE4.o ⟨by rw[hF.o],HBw.o.setCell (by show w.heap.size<=w.heap.size+1;omega) _⟩
theorem aV.box{w:World}{n:NV}{t:Tr}(h:aV w n t)(o:Obj):aV (w.alloc o) n t:=h.ar ((J _ _).alloc (U _) _)
theorem om(n:NV)(t:Tr)(w:World)(h:aV w n t):Calls prog 23 #[cz n] w fun e w'=>e=.returned (.tuple #[.int .i64 (if gd t<1001 then(gd t:Int)else 0),.int .i64 (if gd t<1001 then 0 else 2)])/\Below w.heap.size w w':=by
 have hb:Below w.heap.size w (w.alloc (aG n)):=(J _ _).alloc (U _) _
 have HC:=I (sN n t _ (h.box (aG n)))
 obtain⟨w1,hw1⟩:∃w1,w1=w.alloc (aG n):=⟨_,rfl⟩
 have hbox:w1.heap[w.heap.size]? =some (aG n):=by rw[hw1];exact aj _ _
 rw[<- hw1]at hb HC
 have HB:=I hb
 obtain⟨d0,d1,d2,d3,d4,d5,d6,d7⟩:=ak hbox
 simp only[aG]at hw1
 obtain⟨a,ha⟩:∃a:Int,a=(if gd t<1001 then(gd t:Int)else 0):=⟨_,rfl⟩
 obtain⟨b,hb'⟩:∃b:Int,b=(if gd t<1001 then 0 else 2):=⟨_,rfl⟩
 rw[<- ha, <-hb']at HC |-
 clear h hb hbox ha hb'
 go_enter func23,ntmps23
 go_wp2_with fail
 rw[<- hw1]
 clear hw1
 refine HC.o.mono ?_
 rintro e w2 ⟨rfl,hb2⟩
 have HB2:=I (HB.o.trans (hb2.mono HB.o.size))
 clear hb2 HC
 go_wp2
 go_ret2
 exact⟨rfl,HB2.o⟩
def px(t:Tr)(g:Int):Int:=if gd t<1001 then dD t g else 2
theorem rC(n:NV)(t:Tr)(g:Int)(w:World)(h:aV w n t):Calls prog 15 #[yB n g] w fun e w'=>e=.returned (.int .i64 (px t g))/\Below w.heap.size w w':=by
 have hb:Below w.heap.size w (w.alloc (j6 n g)):=(J _ _).alloc (U _) _
 have HC:=I (om n t _ (h.box (j6 n g)))
 have HK:=I (fun W (hW:Below w.heap.size w W) (hs:fL t<=1000)=>A2 n t g W (h.ar hW) hs)
 obtain⟨w1,hw1⟩:∃w1,w1=w.alloc (j6 n g):=⟨_,rfl⟩
 have hbox:w1.heap[w.heap.size]? =some (j6 n g):=by rw[hw1];exact aj _ _
 rw[<- hw1]at hb HC
 have HB:=I hb
 have HX:=I hbox
 obtain⟨⟨d0,d1,d2,d3,d4,d5,d6,d7⟩,d8,d9⟩:=fX hbox
 simp only[j6]at hw1
 simp only[yB]at HK |-
 have HSz:Hid (gd t<1001->fL t<=1000):=tm
 have HE:Hid (px t g=if gd t<1001 then dD t g else 2):=rfl
 clear h hb hbox
 by_cases hlt:gd t<1001
 ·have hF:Hid (px t g=dD t g):=by show _=_;rw[HE.o,if_pos hlt]
  have hs:=HSz.o hlt
  rw[if_pos hlt,if_pos hlt]at HC
  obtain⟨q,hq⟩:∃q,q=gd t:=⟨_,rfl⟩
  rw[<- hq]at HC
  rw[hF.o]
  clear hlt hq HE HSz hF
  go_enter func15,ntmps15
  go_wp2_with fail
  rw[<- hw1]
  clear hw1
  refine HC.o.mono ?_
  rintro e w2 ⟨rfl,hb2⟩
  have HB2:=I (HB.o.trans (hb2.mono HB.o.size))
  obtain⟨⟨b0,b1,b2,b3,b4,b5,b6,b7⟩,b8,b9⟩:=fX (show w2.heap[w.heap.size]? =some (j6 n g) by rw[hb2.block _ (lt_of_block HX.o)];exact HX.o)
  clear hb2 HC d0 d1 d2 d3 d4 d5 d6 d7 d8 d9
  go_wp2_with fail
  refine(HK.o w2 HB2.o hs).mono ?_
  rintro e w3 ⟨rfl,hb3⟩
  have HB3:=I (HB2.o.trans (hb3.mono HB2.o.size))
  clear hb3 b0 b1 b2 b3 b4 b5 b6 b7 b8 b9
  go_wp2
  go_ret
  exact⟨rfl,HB3.o⟩
 ·have hF:Hid (px t g=2):=by show _=_;rw[HE.o,if_neg hlt]
  rw[if_neg hlt,if_neg hlt]at HC
  rw[hF.o]
  clear hlt HE HSz hF
  go_enter func15,ntmps15
  go_wp2_with fail
  rw[<- hw1]
  clear hw1
  refine HC.o.mono ?_
  rintro e w2 ⟨rfl,hb2⟩
  have HB2:=I (HB.o.trans (hb2.mono HB.o.size))
  clear hb2 HC d0 d1 d2 d3 d4 d5 d6 d7 d8 d9
  go_wp2
  go_ret
  exact⟨rfl,HB2.o⟩
end Go.Proofs.YtklbbbldalmnbaaGreatDoor.TR
