import Derived.Test.YtfnndcbjklppeaaGreatDoorUB2
set_option maxHeartbeats 8000000
set_option maxRecDepth 100000
set_option linter.unusedVariables false
open Go.Proofs.Tryz
namespace Go.Proofs.YtfnndcbjklppeaaGreatDoor
open Go.RowKit
def gives(k:Int):Ending:=.panicked [{ v:=.iface 26 (.int .i64 k),recovered:=false }]
theorem must_any(b:Bool)(k:Int)(w:World):Calls prog 138 #[.bool b,.int .i64 k] w fun e w'=>e=(if b then .returned (.tuple #[])else gives k)∧w=w':=by
 cases b with
 |true=>
  simp only[if_true]
  go_enter func138,ntmps138
  go_wp2
  go_end0
  exact⟨rfl,rfl⟩
 |false=>
  simp only[gives,Bool.false_eq_true,if_false]
  go_enter func138,ntmps138
  go_wp2
  exact⟨rfl,rfl,rfl⟩
def kidL(ts:List Tr)(k:Int):Bool:=ts.any (fun u=>u.kind==k)
theorem kidL_drop{ts:List Tr}{j:Nat}{k:Int}(hj:j<ts.length):kidL (ts.drop j) k=((ts[j].kind==k)||kidL (ts.drop (j+1)) k):=by
 rw[List.drop_eq_getElem_cons hj];rfl
theorem hasKid_any(n:NV)(t:Tr)(k:Int)(w:World)(h:NodeC w n t):Calls prog 168 #[nvV n,.int .i64 k] w fun e w'=>e=.returned (.bool (kidL t.kids k))∧Below w.heap.size w w':=by
 obtain⟨-, -, -, -, -, -, -,vs,hk,hkids⟩:=h.open
 obtain⟨ks,hks⟩:=named t.kids
 have HK:Hid (KidsC w n.ka n.kl n.kc ks.length vs):=by show KidsC _ _ _ _ _ _;rw[hks];exact hk
 have HKL:Hid (n.kl=ks.length):=HK.out.len
 have HKd:Hid (∀j (hj:j<ks.length),(vs j).kind=ks[j].kind):=by subst hks;exact fun j hj=>(hkids j hj).open.1.symm
 rw[← hks]
 have hb:Below w.heap.size w (w.alloc (nvO n)):=allocB _ _
 obtain⟨w1,hw1⟩:=named (w.alloc (nvO n))
 have hbox:w1.heap[w.heap.size]? =some (nvO n):=by rw[hw1];exact at_new _ _
 rw[← hw1]at hb
 have HB:=hide hb
 obtain⟨d0,d1,d2,d3,d4,d5,d6,d7⟩:=nv_cells hbox
 simp only[nvO]at hw1
 obtain⟨A,hA⟩:=named (kidL ks k)
 have HA:=hide hA
 rw[← hA]
 clear h hk hkids hks hbox hb hA
 go_enter func168,ntmps168
 go_wp2
 rw[← hw1]
 clear hw1 d0 d1 d2 d3 d4 d5 d6 d7
 go_loopw [10] (fun t wr=>∃(j:Nat),j≤ks.length∧t=.int .i64 j∧kidL (ks.drop j) k=A∧Below w.heap.size w wr) (fun t _=>ks.length - (intOf t).toNat)
 case atStart=>exact⟨0,Nat.zero_le _,rfl,HA.out.symm,HB.out⟩
 case round=>
  obtain⟨j,hj,rfl,hE,hb⟩:=hrel
  have HE:=hide hE
  have HB2:=hide hb
  obtain⟨w2,hw2⟩:=named wr
  subst hw2
  clear hb HB hE
  by_cases hlt:j<ks.length
  ·have e2:(j:Int)<(n.kl:Int):=by have:=HKL.out;omega
   have e4:(0:Int)≤(j:Int):=by omega
   rcases HK.out with⟨_,_,_,h0⟩|⟨x,hx,hkk,hmx,hcl⟩
   ·exact absurd h0 (by omega)
   ·obtain ⟨d0,d1,d2,d3,d4,d5,d6,d7⟩:=(hcl j hlt).below HB2.out
    have HD:=hide (kidL_drop (k:=k) hlt)
    have hkj:=HKd.out j hlt
    have HB3:Hid (Below w.heap.size w (w2.alloc (nvO (vs j)))):=HB2.out.alloc HB2.out.size _
    have hjw:IntKind.i64.wrap ((j:Int)+1)=(j:Int)+1:=by rw[IntKind.wrap_i64];omega
    rw[hx]
    cases hq:((vs j).kind==k)with
    |true=>
     have hF:Hid (A=true):=by show _=_;rw[← HE.out,HD.out, ←hkj,hq];rfl
     clear hcl hx hkk hkj
     go_wp2
     go_ret
     exact⟨by rw[hF.out];rfl,HB3.out⟩
    |false=>
     have hF:Hid (kidL (ks.drop (j+1)) k=A):=by show _=_;rw[← HE.out,HD.out, ←hkj,hq];rfl
     clear hcl hx hkk hkj
     go_wp2
     go_roundw
     case rel=>exact⟨j+1,by omega,by go_num,hF.out,HB3.out⟩
     case measure=>simp[intOf];omega
  ·have e2:¬(j:Int)<(n.kl:Int):=by have:=HKL.out;omega
   have hF:Hid (A=false):=by
    show _=_
    rw[← HE.out,List.drop_eq_nil_of_le (by omega)];rfl
   go_wp2
   go_ret
   exact⟨by rw[hF.out];rfl,HB2.out⟩
def kidsB(t:Tr):Bool:=
 if t.kind=9 then(decide (2≤t.kids.length)&&!kidL t.kids 9)&&!kidL t.kids 1
 else if t.kind=10 then decide (2≤t.kids.length)&&!kidL t.kids 10
 else if 11≤t.kind∧t.kind≤17 then decide (t.kids.length=1)
 else decide (t.kids.length=0)
theorem hasItsKids_any(n:NV)(t:Tr)(w:World)(h:NodeC w n t):Calls prog 139 #[nvV n] w fun e w'=>e=.returned (.bool (kidsB t))∧Below w.heap.size w w':=by
 obtain⟨hk0, -, -, -, -, -, -,vs,hk, -⟩:=h.open
 have hkl:=hk.len
 have hb:Below w.heap.size w (w.alloc (nvO n)):=allocB _ _
 have HC:=hide (fun W (hW:Below w.heap.size w W) k=>hasKid_any n t k W (h.keep hW))
 obtain⟨w1,hw1⟩:=named (w.alloc (nvO n))
 have hbox:w1.heap[w.heap.size]? =some (nvO n):=by rw[hw1];exact at_new _ _
 rw[← hw1]at hb
 have HB:=hide hb
 have HX:=hide hbox
 obtain⟨d0,d1,d2,d3,d4,d5,d6,d7⟩:=nv_cells hbox
 simp only[nvO]at hw1
 have hE:kidsB t=(if n.kind=9 then(decide (2≤n.kl)&&!kidL t.kids 9)&&!kidL t.kids 1 else if n.kind=10 then decide (2≤n.kl)&&!kidL t.kids 10 else if 11≤n.kind∧n.kind≤17 then decide (n.kl=1)else decide (n.kl=0)):=by unfold kidsB;rw[hk0,hkl]
 have HE:=hide hE
 obtain⟨A,hA⟩:=named (kidsB t)
 have HA:=hide hA
 rw[← hA]
 obtain⟨f9,hf9⟩:=named (kidL t.kids 9)
 obtain⟨f1,hf1⟩:=named (kidL t.kids 1)
 obtain⟨f10,hf10⟩:=named (kidL t.kids 10)
 have HC9:Hid (∀W,Below w.heap.size w W→Calls prog 168 #[nvV n,.int .i64 9] W fun e w'=>e=.returned (.bool f9)∧Below W.heap.size W w'):=fun W hW=>by rw[hf9];exact HC.out W hW 9
 have HC1:Hid (∀W,Below w.heap.size w W→Calls prog 168 #[nvV n,.int .i64 1] W fun e w'=>e=.returned (.bool f1)∧Below W.heap.size W w'):=fun W hW=>by rw[hf1];exact HC.out W hW 1
 have HC10:Hid (∀W,Below w.heap.size w W→Calls prog 168 #[nvV n,.int .i64 10] W fun e w'=>e=.returned (.bool f10)∧Below W.heap.size W w'):=fun W hW=>by rw[hf10];exact HC.out W hW 10
 rw[← hf9, ←hf1, ←hf10]at HE
 clear h hk hkl hk0 hE hA hbox hb HC hf9 hf1 hf10
 by_cases h9:n.kind=9
 ·have hb9:(n.kind==9)=true:=by simpa using h9
  by_cases hl:2≤n.kl
  ·have e1:(2:Int)≤(n.kl:Int):=by omega
   have hF:Hid (A=(!f9&&!f1)):=by show _=_;rw[HA.out,HE.out,if_pos h9,decide_eq_true hl];rfl
   clear h9 hl
   cases f9 with
   |true=>
    go_enter func139,ntmps139
    go_wp2_with fail
    rw[← hw1]
    clear hw1
    refine(HC9.out w1 HB.out).mono ?_
    rintro e w2 ⟨rfl,hb2⟩
    have HB2:=hide (HB.out.andT hb2)
    clear hb2 d0 d1 d2 d3 d4 d5 d6 d7
    go_wp2
    go_ret
    exact⟨by rw[hF.out];rfl,HB2.out⟩
   |false=>
    go_enter func139,ntmps139
    go_wp2_with fail
    rw[← hw1]
    clear hw1
    refine(HC9.out w1 HB.out).mono ?_
    rintro e w2 ⟨rfl,hb2⟩
    have HB2:=hide (HB.out.andT hb2)
    obtain⟨b0,b1,b2,b3,b4,b5,b6,b7⟩:=(nv_cells HX.out).below hb2
    clear hb2 d0 d1 d2 d3 d4 d5 d6 d7
    go_wp2_with fail
    refine(HC1.out w2 HB2.out).mono ?_
    rintro e w3 ⟨rfl,hb3⟩
    have HB3:=hide (HB2.out.andT hb3)
    clear hb3 b0 b1 b2 b3 b4 b5 b6 b7
    go_wp2
    go_ret
    exact⟨by rw[hF.out];cases f1<;>rfl,HB3.out⟩
  ·have e1:¬(2:Int)≤(n.kl:Int):=by omega
   have hF:Hid (A=false):=by show _=_;rw[HA.out,HE.out,if_pos h9,decide_eq_false hl];rfl
   clear h9 hl
   go_enter func139,ntmps139
   go_wp2
   go_ret
   exact⟨by rw[hF.out];rfl,by rw[← hw1];exact HB.out⟩
 ·have hb9:(n.kind==9)=false:=by simpa using h9
  by_cases h10:n.kind=10
  ·have hb10:(n.kind==10)=true:=by simpa using h10
   by_cases hl:2≤n.kl
   ·have e1:(2:Int)≤(n.kl:Int):=by omega
    have hF:Hid (A=!f10):=by show _=_;rw[HA.out,HE.out,if_neg h9,if_pos h10,decide_eq_true hl];rfl
    clear h9 hl h10
    go_enter func139,ntmps139
    go_wp2_with fail
    rw[← hw1]
    clear hw1
    refine(HC10.out w1 HB.out).mono ?_
    rintro e w2 ⟨rfl,hb2⟩
    have HB2:=hide (HB.out.andT hb2)
    clear hb2 d0 d1 d2 d3 d4 d5 d6 d7
    go_wp2
    go_ret
    exact⟨by rw[hF.out];cases f10<;>rfl,HB2.out⟩
   ·have e1:¬(2:Int)≤(n.kl:Int):=by omega
    have hF:Hid (A=false):=by show _=_;rw[HA.out,HE.out,if_neg h9,if_pos h10,decide_eq_false hl];rfl
    clear h9 hl h10
    go_enter func139,ntmps139
    go_wp2
    go_ret
    exact⟨by rw[hF.out];rfl,by rw[← hw1];exact HB.out⟩
  ·have hb10:(n.kind==10)=false:=by simpa using h10
   by_cases h11:11≤n.kind∧n.kind≤17
   ·have hF:Hid (A=decide (n.kl=1)):=by show _=_;rw[HA.out,HE.out,if_neg h9,if_neg h10,if_pos h11]
    obtain⟨g1,g2⟩:=h11
    clear h9 h10
    go_enter func139,ntmps139
    go_wp2
    all_goals go_ret
    all_goals exact⟨by rw[hF.out];exact ret_bool (by rw[Bool.eq_iff_iff];simp<;>omega),by rw[← hw1];exact HB.out⟩
   ·have hF:Hid (A=decide (n.kl=0)):=by show _=_;rw[HA.out,HE.out,if_neg h9,if_neg h10,if_neg h11]
    by_cases g1:11≤n.kind
    ·have g2:¬n.kind≤17:=by omega
     clear h9 h10 h11
     go_enter func139,ntmps139
     go_wp2
     all_goals go_ret
     all_goals exact⟨by rw[hF.out];exact ret_bool (by rw[Bool.eq_iff_iff];simp<;>omega),by rw[← hw1];exact HB.out⟩
    ·clear h9 h10 h11
     go_enter func139,ntmps139
     go_wp2
     all_goals go_ret
     all_goals exact⟨by rw[hF.out];exact ret_bool (by rw[Bool.eq_iff_iff];simp<;>omega),by rw[← hw1];exact HB.out⟩
def fieldsB(t:Tr):Bool:=
 (decide (t.kind=2)||decide (t.set.length=0))&&(decide (t.kind=11)||decide (t.kind=18)||decide (t.num=0))&&(decide (t.kind=12)||decide (t.least=0))&&(decide (t.kind=12)||decide (t.most=0))&&(decide (t.kind=12)||decide (t.way=0))&&(decide (t.kind=18)||!t.fold)
theorem Reads.len{w:World}{a:Option Addr}{l c:Nat}{L:RL}(h:Reads w (.slice a l c) L):l=L.length:=by
 rcases h with⟨h1,rfl⟩|⟨x,c,h1,h2⟩
 ·cases h1;rfl
 ·cases h1;rfl
theorem hasItsFields_any(n:NV)(t:Tr)(w:World)(h:NodeC w n t):Calls prog 140 #[nvV n] w fun e w'=>e=.returned (.bool (fieldsB t))∧Below w.heap.size w w':=by
 obtain⟨hk0,k1,k2,k3,k4,k5,hr, -⟩:=h.open
 have hsl:=hr.len
 have hb:Below w.heap.size w (w.alloc (nvO n)):=allocB _ _
 obtain⟨w1,hw1⟩:=named (w.alloc (nvO n))
 have hbox:w1.heap[w.heap.size]? =some (nvO n):=by rw[hw1];exact at_new _ _
 rw[← hw1]at hb
 have HB:=hide hb
 obtain⟨d0,d1,d2,d3,d4,d5,d6,d7⟩:=nv_cells hbox
 have fz:∀o,w1.frozen? ⟨w.heap.size,o,none⟩=false:=fun o=>by simp[World.frozen?,hbox]
 simp only[nvO]at hw1
 have HE:Hid (fieldsB t=((decide (n.kind=2)||decide (n.sl=0))&&(decide (n.kind=11)||decide (n.kind=18)||decide (n.num=0))&&(decide (n.kind=12)||decide (n.least=0))&&(decide (n.kind=12)||decide (n.most=0))&&(decide (n.kind=12)||decide (n.way=0))&&(decide (n.kind=18)||!n.fold))):=by show _=_;unfold fieldsB;rw[hk0,k1,k2,k3,k4,k5,hsl]
 obtain⟨A,hA⟩:=named (fieldsB t)
 rw[← hA]at HE ⊢
 obtain⟨fo,hfo⟩:=named n.fold
 rw[← hfo]at d7 HE hw1
 have hvn:nvV n=.agg #[.int .i64 n.kind,.slice n.sa n.sl n.sc,.slice n.ka n.kl n.kc,.int .i64 n.num,.int .i64 n.least,.int .i64 n.most,.int .i64 n.way,.bool fo]:=by rw[hfo]
 rw[hvn]
 clear h hr hsl hk0 k1 k2 k3 k4 k5 hA hbox hb hfo hvn
 by_cases h2:n.kind=2
 ·have hF:Hid (A=(decide (n.num=0)&&decide (n.least=0)&&decide (n.most=0)&&decide (n.way=0)&&!fo)):=by
   show _=_
   rw[HE.out]
   simp only[decide_eq_true h2,(decide_eq_false (by omega):decide (n.kind=11)=false),(decide_eq_false (by omega):decide (n.kind=12)=false),(decide_eq_false (by omega):decide (n.kind=18)=false),Bool.true_or,Bool.false_or,Bool.true_and,Bool.or_false]
  have b2:(n.kind==2)=true:=by simpa using h2
  clear h2 HE
  cases fo with
  |true=>
   go_enter func140,ntmps140
   go_wp2
   all_goals go_ret
   all_goals exact⟨by rw[hF.out];exact ret_bool (by rw[Bool.eq_iff_iff];simp<;>omega),allocB _ _⟩
  |false=>
   go_enter func140,ntmps140
   go_wp2
   all_goals go_ret
   all_goals exact⟨by rw[hF.out];exact ret_bool (by rw[Bool.eq_iff_iff];simp<;>omega),allocB _ _⟩
 ·by_cases h11:n.kind=11
  ·have hF:Hid (A=(decide (n.sl=0)&&decide (n.least=0)&&decide (n.most=0)&&decide (n.way=0)&&!fo)):=by
    show _=_
    rw[HE.out]
    simp only[decide_eq_false h2,decide_eq_true h11,(decide_eq_false (by omega):decide (n.kind=12)=false),(decide_eq_false (by omega):decide (n.kind=18)=false),Bool.true_or,Bool.false_or,Bool.and_true,Bool.or_false]
   have b2:(n.kind==2)=false:=by simpa using h2
   have b11:(n.kind==11)=true:=by simpa using h11
   clear h2 h11 HE
   cases fo with
   |true=>
    go_enter func140,ntmps140
    go_wp2
    all_goals go_ret
    all_goals exact⟨by rw[hF.out];exact ret_bool (by rw[Bool.eq_iff_iff];simp<;>omega),allocB _ _⟩
   |false=>
    go_enter func140,ntmps140
    go_wp2
    all_goals go_ret
    all_goals exact⟨by rw[hF.out];exact ret_bool (by rw[Bool.eq_iff_iff];simp<;>omega),allocB _ _⟩
  ·by_cases h12:n.kind=12
   ·have hF:Hid (A=(decide (n.sl=0)&&decide (n.num=0)&&!fo)):=by
     show _=_
     rw[HE.out]
     simp only[decide_eq_false h2,decide_eq_false h11,decide_eq_true h12,(decide_eq_false (by omega):decide (n.kind=18)=false),Bool.true_or,Bool.false_or,Bool.and_true,Bool.or_false]
    have b2:(n.kind==2)=false:=by simpa using h2
    have b11:(n.kind==11)=false:=by simpa using h11
    have b12:(n.kind==12)=true:=by simpa using h12
    clear h2 h11 h12 HE
    cases fo with
    |true=>
     go_enter func140,ntmps140
     go_wp2
     all_goals go_ret
     all_goals exact⟨by rw[hF.out];exact ret_bool (by rw[Bool.eq_iff_iff];simp<;>omega),allocB _ _⟩
    |false=>
     go_enter func140,ntmps140
     go_wp2
     all_goals go_ret
     all_goals exact⟨by rw[hF.out];exact ret_bool (by rw[Bool.eq_iff_iff];simp<;>omega),allocB _ _⟩
   ·by_cases h18:n.kind=18
    ·have hF:Hid (A=(decide (n.sl=0)&&decide (n.least=0)&&decide (n.most=0)&&decide (n.way=0))):=by
      show _=_
      rw[HE.out]
      simp only[decide_eq_false h2,decide_eq_false h11,decide_eq_false h12,decide_eq_true h18,Bool.true_or,Bool.false_or,Bool.and_true,Bool.or_true]
     have b2:(n.kind==2)=false:=by simpa using h2
     have b11:(n.kind==11)=false:=by simpa using h11
     have b12:(n.kind==12)=false:=by simpa using h12
     have b18:(n.kind==18)=true:=by simpa using h18
     clear h2 h11 h12 h18 HE
     cases fo with
     |true=>
      go_enter func140,ntmps140
      go_wp2
      all_goals go_ret
      all_goals exact⟨by rw[hF.out];exact ret_bool (by rw[Bool.eq_iff_iff];simp<;>omega),allocB _ _⟩
     |false=>
      go_enter func140,ntmps140
      go_wp2
      all_goals go_ret
      all_goals exact⟨by rw[hF.out];exact ret_bool (by rw[Bool.eq_iff_iff];simp<;>omega),allocB _ _⟩
    ·have hF:Hid (A=(decide (n.sl=0)&&decide (n.num=0)&&decide (n.least=0)&&decide (n.most=0)&&decide (n.way=0)&&!fo)):=by
      show _=_
      rw[HE.out]
      simp only[decide_eq_false h2,decide_eq_false h11,decide_eq_false h12,decide_eq_false h18,Bool.false_or,Bool.or_false]
     have b2:(n.kind==2)=false:=by simpa using h2
     have b11:(n.kind==11)=false:=by simpa using h11
     have b12:(n.kind==12)=false:=by simpa using h12
     have b18:(n.kind==18)=false:=by simpa using h18
     clear h2 h11 h12 h18 HE
     cases fo with
     |true=>
      go_enter func140,ntmps140
      go_wp2
      all_goals go_ret
      all_goals exact⟨by rw[hF.out];exact ret_bool (by rw[Bool.eq_iff_iff];simp<;>omega),allocB _ _⟩
     |false=>
      go_enter func140,ntmps140
      go_wp2
      all_goals go_ret
      all_goals exact⟨by rw[hF.out];exact ret_bool (by rw[Bool.eq_iff_iff];simp<;>omega),allocB _ _⟩
def repE(t:Tr):Int:=if ¬(0≤t.least∧t.least≤100)then 3 else if ¬(t.most= -1∨(t.least≤t.most∧t.most≤100))then 3 else if ¬(1≤t.way∧t.way≤3)then 7 else 0
def mustE(z:Int):Ending:=if z=0 then .returned (.tuple #[])else gives z
theorem must_yes(k:Int)(w:World):Calls prog 138 #[.bool true,.int .i64 k] w fun e w'=>e=.returned (.tuple #[])∧w=w':=must_any true k w
theorem must_no(k:Int)(w:World):Calls prog 138 #[.bool false,.int .i64 k] w fun e w'=>e=gives k∧w=w':=must_any false k w
theorem checkRepeat_any(n:NV)(t:Tr)(w:World)(h:NodeC w n t):Calls prog 141 #[nvV n] w fun e w'=>e=mustE (repE t)∧Below w.heap.size w w':=by
 obtain⟨-, -,k2,k3,k4, -⟩:=h.open
 have hb:Below w.heap.size w (w.alloc (nvO n)):=allocB _ _
 obtain⟨w1,hw1⟩:=named (w.alloc (nvO n))
 have hbox:w1.heap[w.heap.size]? =some (nvO n):=by rw[hw1];exact at_new _ _
 rw[← hw1]at hb
 have HB:=hide hb
 obtain⟨d0,d1,d2,d3,d4,d5,d6,d7⟩:=nv_cells hbox
 simp only[nvO]at hw1
 have HE:Hid (repE t=if ¬(0≤n.least∧n.least≤100)then 3 else if ¬(n.most= -1∨(n.least≤n.most∧n.most≤100))then 3 else if ¬(1≤n.way∧n.way≤3)then 7 else 0):=by show _=_;unfold repE;rw[k2,k3,k4]
 have HY:=hide (fun k=>must_yes k w1)
 have HN:Hid (∀k,Calls prog 138 #[.bool false,.int .i64 k] w1 fun e w'=>e=.panicked [{ v:=.iface 26 (.int .i64 k),recovered:=false }]∧w1=w'):=fun k=>must_no k w1
 obtain⟨A,hA⟩:=named (repE t)
 rw[← hA]at HE ⊢
 clear h k2 k3 k4 hA hbox hb
 by_cases h1:0≤n.least∧n.least≤100
 ·obtain ⟨a1,a2⟩:=h1
  by_cases h2:n.most= -1∨(n.least≤n.most∧n.most≤100)
  ·by_cases h3:1≤n.way∧n.way≤3
   ·have hF:Hid (A=0):=by show _=_;rw[HE.out,if_neg (by omega),if_neg (by omega),if_neg (by omega)]
    obtain⟨c1,c2⟩:=h3
    rw[hF.out]
    simp only[mustE,if_true]
    by_cases h4:n.most= -1
    ·have b4:(n.most== -1)=true:=by simpa using h4
     clear h2 h4
     go_enter func141,ntmps141
     go_wp2_with fail
     rw[← hw1]
     clear hw1
     refine(HY.out 3).mono ?_
     rintro e w' ⟨rfl,rfl⟩
     go_wp2_with fail
     refine(HY.out 3).mono ?_
     rintro e w' ⟨rfl,rfl⟩
     go_wp2_with fail
     refine(HY.out 7).mono ?_
     rintro e w' ⟨rfl,rfl⟩
     go_wp2
     go_end0
     exact⟨rfl,HB.out⟩
    ·have b4:(n.most== -1)=false:=by simpa using h4
     have c3:n.least≤n.most:=by omega
     have c4:n.most≤100:=by omega
     clear h2 h4
     go_enter func141,ntmps141
     go_wp2_with fail
     rw[← hw1]
     clear hw1
     refine(HY.out 3).mono ?_
     rintro e w' ⟨rfl,rfl⟩
     go_wp2_with fail
     refine(HY.out 3).mono ?_
     rintro e w' ⟨rfl,rfl⟩
     go_wp2_with fail
     refine(HY.out 7).mono ?_
     rintro e w' ⟨rfl,rfl⟩
     go_wp2
     go_end0
     exact⟨rfl,HB.out⟩
   ·have hF:Hid (A=7):=by show _=_;rw[HE.out,if_neg (by omega),if_neg (by omega),if_pos h3]
    rw[hF.out]
    simp only[mustE,gives]
    rw[if_neg (by decide)]
    by_cases h4:n.most= -1
    ·have b4:(n.most== -1)=true:=by simpa using h4
     clear h2 h4
     by_cases g1:1≤n.way
     ·have g2:decide (n.way≤3)=false:=decide_eq_false (by omega)
      clear h3
      go_enter func141,ntmps141
      go_wp2_with fail
      rw[← hw1]
      clear hw1
      refine(HY.out 3).mono ?_
      rintro e w' ⟨rfl,rfl⟩
      go_wp2_with fail
      refine(HY.out 3).mono ?_
      rintro e w' ⟨rfl,rfl⟩
      go_wp2_with fail
      refine(HN.out 7).mono ?_
      rintro e w' ⟨rfl,rfl⟩
      go_wp2
      exact⟨rfl,rfl,HB.out⟩
     ·clear h3
      go_enter func141,ntmps141
      go_wp2_with fail
      rw[← hw1]
      clear hw1
      refine(HY.out 3).mono ?_
      rintro e w' ⟨rfl,rfl⟩
      go_wp2_with fail
      refine(HY.out 3).mono ?_
      rintro e w' ⟨rfl,rfl⟩
      go_wp2_with fail
      refine(HN.out 7).mono ?_
      rintro e w' ⟨rfl,rfl⟩
      go_wp2
      exact⟨rfl,rfl,HB.out⟩
    ·have b4:(n.most== -1)=false:=by simpa using h4
     have c3:n.least≤n.most:=by omega
     have c4:n.most≤100:=by omega
     clear h2 h4
     by_cases g1:1≤n.way
     ·have g2:decide (n.way≤3)=false:=decide_eq_false (by omega)
      clear h3
      go_enter func141,ntmps141
      go_wp2_with fail
      rw[← hw1]
      clear hw1
      refine(HY.out 3).mono ?_
      rintro e w' ⟨rfl,rfl⟩
      go_wp2_with fail
      refine(HY.out 3).mono ?_
      rintro e w' ⟨rfl,rfl⟩
      go_wp2_with fail
      refine(HN.out 7).mono ?_
      rintro e w' ⟨rfl,rfl⟩
      go_wp2
      exact⟨rfl,rfl,HB.out⟩
     ·clear h3
      go_enter func141,ntmps141
      go_wp2_with fail
      rw[← hw1]
      clear hw1
      refine(HY.out 3).mono ?_
      rintro e w' ⟨rfl,rfl⟩
      go_wp2_with fail
      refine(HY.out 3).mono ?_
      rintro e w' ⟨rfl,rfl⟩
      go_wp2_with fail
      refine(HN.out 7).mono ?_
      rintro e w' ⟨rfl,rfl⟩
      go_wp2
      exact⟨rfl,rfl,HB.out⟩
  ·have hF:Hid (A=3):=by show _=_;rw[HE.out,if_neg (by omega),if_pos h2]
   rw[hF.out]
   simp only[mustE,gives]
   rw[if_neg (by decide)]
   have b4:(n.most== -1)=false:=by simp only[beq_eq_false_iff_ne,ne_eq];omega
   by_cases g1:n.least≤n.most
   ·have g2:decide (n.most≤100)=false:=decide_eq_false (by omega)
    clear h2
    go_enter func141,ntmps141
    go_wp2_with fail
    rw[← hw1]
    clear hw1
    refine(HY.out 3).mono ?_
    rintro e w' ⟨rfl,rfl⟩
    go_wp2_with fail
    refine(HN.out 3).mono ?_
    rintro e w' ⟨rfl,rfl⟩
    go_wp2
    exact⟨rfl,rfl,HB.out⟩
   ·clear h2
    go_enter func141,ntmps141
    go_wp2_with fail
    rw[← hw1]
    clear hw1
    refine(HY.out 3).mono ?_
    rintro e w' ⟨rfl,rfl⟩
    go_wp2_with fail
    refine(HN.out 3).mono ?_
    rintro e w' ⟨rfl,rfl⟩
    go_wp2
    exact⟨rfl,rfl,HB.out⟩
 ·have hF:Hid (A=3):=by show _=_;rw[HE.out,if_pos h1]
  rw[hF.out]
  simp only[mustE,gives]
  rw[if_neg (by decide)]
  by_cases g1:0≤n.least
  ·have g2:decide (n.least≤100)=false:=decide_eq_false (by omega)
   clear h1
   go_enter func141,ntmps141
   go_wp2_with fail
   rw[← hw1]
   clear hw1
   refine(HN.out 3).mono ?_
   rintro e w' ⟨rfl,rfl⟩
   go_wp2
   exact⟨rfl,rfl,HB.out⟩
  ·clear h1
   go_enter func141,ntmps141
   go_wp2_with fail
   rw[← hw1]
   clear hw1
   refine(HN.out 3).mono ?_
   rintro e w' ⟨rfl,rfl⟩
   go_wp2
   exact⟨rfl,rfl,HB.out⟩
end Go.Proofs.YtfnndcbjklppeaaGreatDoor
