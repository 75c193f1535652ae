import Derived.Test.YtfnndcbjklppeaaGreatDoorUI2
import Derived.Defers
import Derived.Recover
import Derived.RegionTactic
import Derived.Deep.RegionWith
import Derived.Test.YtfnndcbjklppeaaGreatDoorUB2
import Derived.PlainAid
import Derived.Test.YtfnndcbjklppeaaGreatDoorUC2
import Derived.StillTailTactics
set_option maxHeartbeats 4000000
set_option maxRecDepth 100000
set_option linter.unusedVariables false
open Go.Proofs.Tryz
namespace Go.Proofs.YtfnndcbjklppeaaGreatDoor
open Go.RowKit
theorem cell_of_one{w:World}{m:Nat}{v:Value}{e:TypeId}{fr:Nat×Nat}(h:w.heap[m]? =some (.cells #[v] e fr)):w.cell? ⟨m,0,none⟩=some v:=by simp[World.cell?,h]
theorem free_of_one{w:World}{m:Nat}{v:Value}{e:TypeId}(h:w.heap[m]? =some (.cells #[v] e (0,0)))(o:Nat):w.frozen? ⟨m,o,none⟩=false:=by simp[World.frozen?,h]
theorem catch_idle(p:Addr)(w:World):
  CallsD prog 100 #[.pointer (some p)] .returning w fun e u' w'=>e=.returned (.tuple #[])∧u'=.returning∧w'=w:=by
 have hnn:∀w,(binOp .neq 20 .nilIface .nilIface).run prog w=.ok (.bool false) w:=fun w=>by kernel_rfl
 refine callsD_of_wpS func100 rfl fun c₀ cs hu=>?_
 apply wpS_seq
 apply wpS_region
 simp[wpOpsS,go_sem,recoverD,hu,ntmps100,Exit.thenS]
 apply wpS_seq
 apply wpS_region
 simp[wpOpsS,go_sem,hnn,Exit.thenS]
 refine wpS_cond (t:=false) (by simp[Act.eval,Array.replicate]) ?_
 simp only[Bool.false_eq_true,if_false]
 refine wpS_of_wp (wp_skip ?_)
 cases c₀
 simp_all [bodyPostS,results,results100]
theorem catch_some(m:Nat)(z a:Int)(w:World)(hm:w.heap[m]? =some (.cells #[.int .i64 a] 26 (0,0))):
  CallsD prog 100 #[.pointer (some ⟨m,0,none⟩)] (.panicking [{ v:=.iface 26 (.int .i64 z),recovered:=false }]) w fun e u' w'=>e=.returned (.tuple #[])∧u'=.panicking [{ v:=.iface 26 (.int .i64 z),recovered:=true }]∧w'=w.setCell ⟨m,0,none⟩ (.int .i64 z):=by
 have hta:∀w,(Instr.typeAssert (.iface 26 (.int .i64 z)) 20 26 false).run prog w=.ok (.int .i64 z) w:=fun w=>by kernel_rfl
 have hnn:∀x w,(binOp .neq 20 (.iface 26 x) .nilIface).run prog w=.ok (.bool true) w:=fun x w=>by rfl
 refine callsD_of_wpS func100 rfl fun c₀ cs hu=>?_
 apply wpS_seq
 apply wpS_region
 simp[wpOpsS,go_sem,recoverD,hu,ntmps100,Exit.thenS]
 apply wpS_seq
 apply wpS_region
 simp[wpOpsS,go_sem,hnn,Exit.thenS]
 refine wpS_cond (t:=true) (by simp[Act.eval,Array.replicate]) ?_
 simp only[if_true]
 refine wpS_of_wp ?_
 have cm:=cell_of_one hm
 have fm:=free_of_one hm
 go_wp2
 exact⟨rfl,_,rfl,.tuple #[],by simp[results,results100],rfl,rfl,rfl⟩
def treeE(t:Tr)(g:Int):Int:=match chkT t (0,[])with
 | .error z=>z
 | .ok s=>if countsE s g≠0 then countsE s g else numsE s.1 s.2
abbrev patV(n:NV)(g:Int):Value:=.agg #[.int .i64 n.kind,.slice n.sa n.sl n.sc,.slice n.ka n.kl n.kc,.int .i64 n.num,.int .i64 n.least,.int .i64 n.most,.int .i64 n.way,.bool n.fold,.int .i64 g,.slice none 0 0]
abbrev patO(n:NV)(g:Int):Obj:=.cells #[.int .i64 n.kind,.slice n.sa n.sl n.sc,.slice n.ka n.kl n.kc,.int .i64 n.num,.int .i64 n.least,.int .i64 n.most,.int .i64 n.way,.bool n.fold,.int .i64 g,.slice none 0 0] 35
abbrev errO(z:Int):Obj:=.cells #[.int .i64 z] 26
theorem pat_cells{w:World}{k:Nat}{n:NV}{g:Int}(h:w.heap[k]? =some (patO n g)):NCells w ⟨k,0,none⟩ n∧w.cell? ⟨k,8,none⟩=some (.int .i64 g)∧w.cell? ⟨k,9,none⟩=some (.slice none 0 0):=by
 refine⟨⟨?_,?_,?_,?_,?_,?_,?_,?_⟩,?_,?_⟩<;>simp[World.cell?,h]
theorem one_setCell{w:World}{m:Nat}{v u:Value}{e:TypeId}{fr:Nat×Nat}(h:w.heap[m]? =some (.cells #[v] e fr)):(w.setCell ⟨m,0,none⟩ u).heap[m]? =some (.cells #[u] e fr):=by rw[set_one h];rfl
theorem leave_ok{tmps:Array Value}{W:World}{N:Nat}{z:Int}{R:Ending→World→Prop}(h2:tmps[2]? =some (.pointer (some ⟨N,0,none⟩)))(q1:W.heap[N]? =some (errO z))(hF:R (.returned (.int .i64 z)) W):
  bodyPostD prog Tryz.f63 R Exit.ret { tmps:=tmps,defers:=[{ target:=Target.fn (Fn.func 100) #[.pointer (some ⟨N,0,none⟩)],args:=#[] }] } W:=by
 have c1:=cell_of_one q1
 refine leaves_cons (f:=100) (args:=#[.pointer (some ⟨N,0,none⟩)]) (by simp) (by simp[go_sem]) ?_
 refine(catch_idle _ _).mono ?_
 rintro e u' w2 ⟨rfl,rfl,rfl⟩
 simp[Leaves,settle,results,results63,go_sem,h2,c1]
 exact hF
theorem leave_pan{tmps:Array Value}{W:World}{N:Nat}{a z:Int}{R:Ending→World→Prop}(h2:tmps[2]? =some (.pointer (some ⟨N,0,none⟩)))(q1:W.heap[N]? =some (errO a))(hF:R (.returned (.int .i64 z)) (W.setCell ⟨N,0,none⟩ (.int .i64 z))):
  bodyPostD prog Tryz.f63 R (Exit.panic [{ v:=.iface 26 (.int .i64 z),recovered:=false }]) { tmps:=tmps,defers:=[{ target:=Target.fn (Fn.func 100) #[.pointer (some ⟨N,0,none⟩)],args:=#[] }] } W:=by
 refine leaves_cons (f:=100) (args:=#[.pointer (some ⟨N,0,none⟩)]) (by simp) (by simp[go_sem]) ?_
 refine(catch_some N z a W q1).mono ?_
 rintro e u' w2 ⟨rfl,rfl,rfl⟩
 have c1:=cell_of_one (one_setCell (u:=.int .i64 z) q1)
 simp[Leaves,settle,results,results63,go_sem,h2,c1]
 exact hF
theorem NodeC.box{w:World}{n:NV}{t:Tr}(h:NodeC w n t)(o:Obj):NodeC (w.alloc o) n t:=h.keep (allocB _ _)
theorem nodes_any(n:NV)(t:Tr)(w:World)(h:NodeC w n t):Calls prog 62 #[nvV n] w fun e w'=>e=.returned (.tuple #[.int .i64 (if cntA t<1001 then(cntA t:Int)else 0),.int .i64 (if cntA t<1001 then 0 else 2)])∧Below w.heap.size w w':=by
 have hb:Below w.heap.size w (w.alloc (nvO n)):=allocB _ _
 have HC:=hide (count_any n t _ (h.box (nvO n)))
 obtain⟨w1,hw1⟩:=named (w.alloc (nvO n))
 have hbox:w1.heap[w.heap.size]? =some (nvO n):=by rw[hw1];exact at_new _ _
 rw[← hw1]at hb HC
 have HB:=hide hb
 obtain⟨d0,d1,d2,d3,d4,d5,d6,d7⟩:=nv_cells hbox
 simp only[nvO]at hw1
 obtain⟨a,ha⟩:∃a:Int,a=(if cntA t<1001 then(cntA t:Int)else 0):=⟨_,rfl⟩
 obtain⟨b,hb'⟩:∃b:Int,b=(if cntA t<1001 then 0 else 2):=⟨_,rfl⟩
 rw[← ha, ←hb']at HC ⊢
 clear h hb hbox ha hb'
 go_enter func62,ntmps62
 go_wp2_with fail
 rw[← hw1]
 clear hw1
 refine HC.out.mono ?_
 rintro e w2 ⟨rfl,hb2⟩
 have HB2:=hide (HB.out.andT hb2)
 clear hb2 HC
 go_wp2
 go_ret2
 exact⟨rfl,HB2.out⟩
def checkP(t:Tr)(g:Int):Int:=if cntA t<1001 then treeE t g else 2
end Go.Proofs.YtfnndcbjklppeaaGreatDoor
namespace Go.Proofs.YtfnndcbjklppeaaGreatDoor
open Go.RowKit Go.PlainAid
def letP(p:Int):Bool:=(decide (97≤p)&&decide (p≤122))||(decide (65≤p)&&decide (p≤90))
def mayP(p:Int)(first:Bool):Bool:=letP p||decide (p=95)||(!first&&decide (48≤p)&&decide (p≤57))
def nmS(s:ByteArray):Bool:=decide (0<s.size)&&decide (s.size≤20)&&(List.range s.size).all (fun i=>mayP (bt s i) (decide (i=0)))
theorem nmS_long{s:ByteArray}(h:20<s.size):nmS s=false:=by
 unfold nmS
 rw[show decide (s.size≤20)=false from decide_eq_false (by omega)];simp
theorem nmS_none{s:ByteArray}(h:s.size=0):nmS s=false:=by
 unfold nmS
 rw[show decide (0<s.size)=false from decide_eq_false (by omega)];simp
theorem nmS_no{s:ByteArray}{i:Nat}(hi:i<s.size)(h:mayP (bt s i) (decide (i=0))=false):nmS s=false:=by
 unfold nmS
 have:(List.range s.size).all (fun i=>mayP (bt s i) (decide (i=0)))=false:=by
  rw[List.all_eq_false]
  exact⟨i,by simpa using hi,by simp[h]⟩
 rw[this];simp
theorem nmS_yes{s:ByteArray}(h0:0<s.size)(h1:s.size≤20)(h:∀i,i<s.size→mayP (bt s i) (decide (i=0))=true):nmS s=true:=by
 unfold nmS
 rw[show decide (0<s.size)=true by simpa using h0,show decide (s.size≤20)=true by simpa using h1]
 simp only[Bool.true_and]
 rw[List.all_eq_true]
 intro i hi
 exact h i (by simpa using hi)
theorem list_size(s:ByteArray):s.toList=[]↔s.size=0:=by
 rw[ByteArray.toList_eq]
 cases s with
 |mk d=>cases d with
  |mk l=>cases l<;>simp[ByteArray.size]
theorem letP_any(p:Int)(w:World):Calls prog 182 #[.int .i64 p] w fun e w'=>e=.returned (.bool (letP p))∧w'=w:=by
 have h:∀a b c d:Bool,a=decide (97≤p)→b=decide (p≤122)→c=decide (65≤p)→d=decide (p≤90)→letP p=((a&&b)||(c&&d)):=fun a b c d h1 h2 h3 h4=>by unfold letP;rw[h1,h2,h3,h4]
 by_cases h1:97≤p<;>by_cases h2:p≤122<;>by_cases h3:65≤p<;>by_cases h4:p≤90<;>
  (have hE:=h _ _ _ _ rfl rfl rfl rfl;simp only[h1,h2,h3,h4,decide_true,decide_false,Bool.and_true,Bool.and_false,Bool.or_true,Bool.or_false]at hE;have HE:=hide hE;clear hE h;go_enter func182,ntmps182;go_wp2;go_ret;exact⟨by rw[HE.out];rfl,rfl⟩)
theorem mayP_any(p:Int)(f:Bool)(w:World):Calls prog 169 #[.int .i64 p,.bool f] w fun e w'=>e=.returned (.bool (mayP p f))∧w'=w:=by
 have HL:=hide (letP_any p w)
 obtain⟨R,hR⟩:=named (mayP p f)
 obtain⟨x,hx⟩:=named (letP p)
 have HR:Hid (R=(x||decide (p=95)||(!f&&decide (48≤p)&&decide (p≤57)))):=by show _=_;rw[hR,hx];rfl
 rw[← hR]
 rw[← hx]at HL
 clear hR hx
 go_enter func169,ntmps169
 go_wp2_with fail
 refine HL.out.mono ?_
 rintro e w' ⟨rfl,hh⟩
 subst hh
 clear HL
 cases x with
 |true=>
  have HE:Hid (R=true):=by show _=_;rw[HR.out];simp
  go_wp2
  go_ret
  exact⟨by rw[HE.out];rfl,rfl⟩
 |false=>
  by_cases h1:p=95
  ·have HE:Hid (R=true):=by show _=_;rw[HR.out];simp[h1]
   have b1:(p==95)=true:=by simpa using h1
   clear h1
   go_wp2
   go_ret
   exact⟨by rw[HE.out];rfl,rfl⟩
  ·have b1:(p==95)=false:=by simpa using h1
   cases f with
   |true=>
    have HE:Hid (R=false):=by show _=_;rw[HR.out];simp[h1]
    clear h1
    go_wp2
    go_ret
    exact⟨by rw[HE.out];rfl,rfl⟩
   |false=>
    by_cases h2:48≤p
    ·by_cases h3:p≤57
     ·have HE:Hid (R=true):=by show _=_;rw[HR.out];simp[h2,h3]
      clear h1
      go_wp2
      go_ret
      exact⟨by rw[HE.out];rfl,rfl⟩
     ·have HE:Hid (R=false):=by show _=_;rw[HR.out];simp[h1,h3]
      clear h1
      go_wp2
      go_ret
      exact⟨by rw[HE.out];first|rfl|(simp;omega),rfl⟩
    ·have HE:Hid (R=false):=by show _=_;rw[HR.out];simp[h1,h2]
     clear h1
     go_wp2
     go_ret
     exact⟨by rw[HE.out];rfl,rfl⟩
theorem isName_any(s:ByteArray)(w:World):Calls prog 143 #[.string s] w fun e w'=>e=.returned (.bool (nmS s))∧w'=w:=by
 have hg:=get_bt s
 obtain⟨R,hR⟩:=named (nmS s)
 have HR:=hide hR
 rw[← hR]
 clear hR
 by_cases h0:s.size=0
 ·have h1:=(list_size s).2 h0
  have h2:s.toList.isEmpty=true:=by rw[h1];rfl
  have HE:Hid (R=false):=by show _=_;rw[HR.out];exact nmS_none h0
  clear h0
  go_enter func143,ntmps143
  go_wp2
  go_ret
  exact⟨by rw[HE.out];rfl,rfl⟩
 ·have h1:¬s.toList=[]:=fun hh=>h0 ((list_size s).1 hh)
  have h2:s.toList.isEmpty=false:=by
   cases hh:s.toList with
   |nil=>exact absurd hh h1
   |cons _ _=>rfl
  by_cases h20:20<s.size
  ·have HE:Hid (R=false):=by show _=_;rw[HR.out];exact nmS_long h20
   have e1:(20:Int)<(s.size:Int):=by omega
   clear h0 h20
   go_enter func143,ntmps143
   go_wp2
   go_ret
   exact⟨by rw[HE.out];rfl,rfl⟩
  ·have e1:¬(20:Int)<(s.size:Int):=by omega
   go_enter func143,ntmps143
   go_wp2
   go_loopw [13] (fun c wr=>∃(j:Nat),j≤s.size∧c=.int .i64 j∧(∀i,i<j→mayP (bt s i) (decide (i=0))=true)∧wr=w) (fun c _=>s.size - (intOf c).toNat)
   case atStart=>exact⟨0,Nat.zero_le _,rfl,fun i hi=>by omega,rfl⟩
   case round=>
    obtain⟨j,hj,rfl,hall,hwr⟩:=hrel
    subst hwr
    have HA:=hide hall
    clear hall
    by_cases hlt:j<s.size
    ·have e2:(j:Int)<(s.size:Int):=by omega
     have e3:(0:Int)≤(j:Int):=by omega
     have e4:=bt_nonneg s j
     have e5:=bt_le s j
     have HM:=hide (fun f=>mayP_any (bt s j) f wr)
     obtain⟨z,hz⟩:=named (mayP (bt s j) (decide (j=0)))
     have HZ:=hide hz
     have HMz:Hid (Calls prog 169 #[.int .i64 (bt s j),.bool ((j:Int)==0)] wr fun e w'=>e=.returned (.bool z)∧w'=wr):=by
      have e:((j:Int)==0)=decide (j=0):=by rw[Bool.eq_iff_iff];simp
      show Calls _ _ _ _ _
      rw[hz,e]
      exact HM.out _
     clear hz HM
     go_wp2_with fail
     refine HMz.out.mono ?_
     rintro e w' ⟨rfl,hh⟩
     subst hh
     cases z with
     |true=>
      go_wp2
      go_roundw
      case rel=>exact⟨j+1,by omega,by go_num,fun i hi=>by
       by_cases hij:i=j
       ·rw[hij];exact HZ.out.symm
       ·exact HA.out i (by omega),trivial⟩
      case measure=>simp[intOf];omega
     |false=>
      have HE:Hid (R=false):=by show _=_;rw[HR.out];exact nmS_no hlt HZ.out.symm
      go_wp2
      go_ret
      exact⟨by rw[HE.out];rfl,rfl⟩
    ·have e2:¬(j:Int)<(s.size:Int):=by omega
     have HE:Hid (R=true):=by show _=_;rw[HR.out];exact nmS_yes (by omega) (by omega) (fun i hi=>HA.out i (by omega))
     go_wp2
     go_ret
     exact⟨by rw[HE.out];rfl,rfl⟩
end Go.Proofs.YtfnndcbjklppeaaGreatDoor
namespace Go.Proofs.YtfnndcbjklppeaaGreatDoor
open Go.RowKit
abbrev NmL:Type:=List (ByteArray×Int)
def Cells2N(w:World)(x:Addr)(N:NmL):Prop:=∀j (h:j<N.length),w.cell? (x.add (j*2))=some (.string N[j].1)∧w.cell? ⟨(x.add (j*2)).block,(x.add (j*2)).off+1,none⟩=some (.int .i64 N[j].2)
def NamesC(w:World)(v:Value)(N:NmL):Prop:=(v=.slice none 0 0∧N=[])∨∃x c,v=.slice (some x) N.length c∧(N.length≤c∧c≤9223372036854775807)∧Cells2N w x N
theorem NamesC.below{w w':World}{v:Value}{N:NmL}(h:NamesC w v N)(hb:Below w.heap.size w w'):NamesC w' v N:=by
 rcases h with h|⟨x,c,h1,h2,h3⟩
 ·exact .inl h
 ·exact .inr ⟨x,c,h1,h2,fun j hj=>⟨below_cell hb (lt_of_cell (h3 j hj).1) (h3 j hj).1,below_cell hb (lt_of_cell (h3 j hj).2) (h3 j hj).2⟩⟩
theorem NamesC.shape{w:World}{v:Value}{N:NmL}(h:NamesC w v N):∃ao c,v=.slice ao N.length c:=by
 rcases h with⟨rfl,rfl⟩|⟨x,c,rfl,_,_⟩
 ·exact⟨_,_,rfl⟩
 ·exact⟨_,_,rfl⟩
theorem numbers_any(B:Nat)(cb:Nat)(s:St)(v:Value)(N:NmL)(w:World)(h:CK B w cb s)(hl:s.2.length≤1000000)(hN:NamesC w v N):Calls prog 103 #[.pointer (some ⟨cb,0,none⟩),v] w fun e w'=>e=panE (if numsE s.1 s.2=0 then numsE s.1 (N.map (·.2))else 5)∧Below w.heap.size w w':=by
 obtain⟨va,vc,hv0⟩:=hN.shape
 have HNC:=hide hN
 have HCK:=hide h
 rw[hv0]at HNC ⊢
 obtain⟨nl,hnl⟩:=named N.length
 have HNL:=hide hnl
 rw[← hnl]at HNC ⊢
 clear hN hv0 hnl
 obtain⟨v,c0,c1,ho, -,cf,clt⟩:=h.cells
 obtain⟨ro,rc,rfl⟩:=own_shape ho
 have HNm:=hide (fun a=>number_any B cb s a w h)
 have HO:=hide ho
 obtain⟨q,hq⟩:=named s.2.length
 have HQ:=hide hq
 rw[← hq]at c1 hl
 obtain⟨A,hA⟩:=named (numsE s.1 s.2)
 have HA:=hide hA
 obtain⟨Z,hZ⟩:=named (numsE s.1 (N.map (·.2)))
 have HZZ:=hide hZ
 rw[← hA, ←hZ]
 clear hZ
 clear h ho hq hA
 by_cases hz:A=0
 ·rw [if_pos hz]
  have HZ:=hide hz
  clear hz
  go_enter func103,ntmps103
  go_wp2
  go_loopw [13] (fun t wr=>∃(j:Nat),j≤q∧t=.int .i64 j∧numsE s.1 (s.2.drop j)=A∧wr=w) (fun t _=>q - (intOf t).toNat)
  case atStart=>exact⟨0,Nat.zero_le _,rfl,HA.out.symm,rfl⟩
  case round=>
   obtain⟨j,hj,rfl,hE,hwr⟩:=hrel
   have hwr2:=hwr.symm
   subst hwr2
   have HE:=hide hE
   clear hE
   by_cases hlt:j<q
   ·have hjl:j<s.2.length:=by have:=HQ.out;omega
    have e1:(j:Int)<(q:Int):=by omega
    have e0:(0:Int)≤(j:Int):=by omega
    have hD:=numsE_drop (g:=s.1) hjl
    have hn0:numE s.1 s.2[j]=0:=by
     by_cases hh:numE s.1 s.2[j]=0
     ·exact hh
     ·exfalso
      have h1:=HE.out
      rw[hD,if_neg hh,HZ.out]at h1
      exact absurd h1 (by decide)
    have HNx:Hid (numsE s.1 (s.2.drop (j+1))=A):=by show _=_;rw[← HE.out,hD,if_pos hn0]
    have hrow:=HO.out
    rw[← HQ.out]at hrow
    obtain⟨gg,cap,hv⟩:=own_some hrow (by omega)
    obtain⟨rfl⟩:ro=some ⟨gg,0,none⟩:=by cases hv;rfl
    have cj:=own_cell hrow hjl
    have HC:=hide (HNm.out s.2[j])
    rw[hn0,panE_yes]at HC
    obtain⟨a,ha⟩:=named (s.2[j])
    rw[← ha]at cj HC
    have hjw:IntKind.i64.wrap ((j:Int)+1)=(j:Int)+1:=by rw[IntKind.wrap_i64];omega
    clear hD hn0 hrow hv ha hjl
    go_wp2_with fail
    refine HC.out.mono ?_
    rintro e w' ⟨rfl,rfl⟩
    go_wp2
    go_roundw
    case rel=>exact⟨j+1,by omega,by go_num,HNx.out,by first|rfl|trivial⟩
    case measure=>simp[intOf];omega
   ·have e1:¬(j:Int)<(q:Int):=by omega
    go_wp2
    clear c0 c1 cf clt
    go_loopw [23] (fun t2 wr=>∃(k:Nat),k≤nl∧t2=.int .i64 k∧numsE s.1 ((N.map (·.2)).drop k)=Z∧CK B wr cb s∧NamesC wr (.slice va nl vc) N∧Below w.heap.size w wr) (fun t2 _=>nl - (intOf t2).toNat)
    case atStart=>exact⟨0,Nat.zero_le _,rfl,HZZ.out.symm,HCK.out,HNC.out,belR _ _⟩
    case round=>
     obtain⟨k,hk,rfl,hE2,hck,hnc,hbw⟩:=hrel
     obtain⟨w2,hw2⟩:=named wr
     subst hw2
     have HE2:=hide hE2
     have HB2:=hide hbw
     by_cases hlt2:k<nl
     ·have hkN:k<N.length:=by have:=HNL.out;omega
      have hkM:k<(N.map (·.2)).length:=by simpa using hkN
      obtain⟨x,c,hx,hcc,hcl⟩:∃x c,Value.slice va nl vc=.slice (some x) N.length c∧(N.length≤c∧c≤9223372036854775807)∧Cells2N w2 x N:=by
       rcases hnc with⟨_,h0⟩|h
       ·rw[h0]at hkN;simp at hkN
       ·exact h
      obtain⟨rfl⟩:va=some x:=by injection hx
      obtain⟨m0,m1⟩:=hcl k hkN
      obtain⟨w3,hw3⟩:=named (w2.alloc (.cells #[.string N[k].1,.int .i64 N[k].2] 70))
      have hX3:w3.heap[w2.heap.size]? =some (.cells #[.string N[k].1,.int .i64 N[k].2] 70):=by rw[hw3];exact at_new _ _
      have hb3:Below w2.heap.size w2 w3:=by rw[hw3];exact allocB _ _
      have HCK3:=hide (hck.keep hb3)
      have HNC3:=hide (hnc.below hb3)
      have HB3:=hide (HB2.out.andT hb3)
      have HC:=hide (number_any B cb s N[k].2 w3 HCK3.out)
      have hD:=numsE_drop (g:=s.1) hkM
      rw[List.getElem_map]at hD
      obtain⟨bs,hbs⟩:=named (N[k].1)
      obtain⟨nu,hnu⟩:=named (N[k].2)
      rw[← hbs]at m0 hw3 hX3
      rw[← hnu]at m1 hw3 hX3 HC hD
      have HD:=hide hD
      have e5:(k:Int)<(nl:Int):=by omega
      have e6:(0:Int)≤(k:Int):=by omega
      have hkw:IntKind.i64.wrap ((k:Int)+1)=(k:Int)+1:=by
       have:=HNL.out
       rw[IntKind.wrap_i64];omega
      obtain⟨bx,hbx⟩:=named w2.heap.size
      rw[← hbx]at hX3
      have f0:w3.cell? ⟨bx,0,none⟩=some (.string bs):=by simp[World.cell?,hX3]
      have f1:w3.cell? ⟨bx,1,none⟩=some (.int .i64 nu):=by simp[World.cell?,hX3]
      clear hE2 hck hnc hbw hx hcc hcl hb3 hD hkM hbs hnu hX3
      go_upto_region 8 with fail
      rw[← hw3, ←hbx]
      clear hw3 hbx m0 m1
      by_cases hn0:numE s.1 nu=0
      ·have HNx:Hid (numsE s.1 ((N.map (·.2)).drop (k+1))=Z):=by show _=_;rw[← HE2.out,HD.out,if_pos hn0]
       rw[hn0,panE_yes]at HC
       clear hn0
       go_wp2_with fail
       refine HC.out.mono ?_
       rintro e w' ⟨rfl,hh⟩
       have hh2:=hh.symm
       subst hh2
       go_wp2
       go_roundw
       case rel=>exact⟨k+1,by omega,by go_num,HNx.out,HCK3.out,HNC3.out,HB3.out⟩
       case measure=>simp[intOf];omega
      ·have hZ5:Hid (Z=5):=by show _=_;rw[← HE2.out,HD.out,if_neg hn0]
       have hn5:numE s.1 nu=5:=by unfold numE at hn0 ⊢;split;rename_i h;rw[if_pos h]at hn0;exact absurd rfl hn0;rfl
       rw[hn5,panE_no (by decide)]at HC
       clear hn0 hn5
       go_wp2_with fail
       refine HC.out.mono ?_
       rintro e w' ⟨rfl,hh⟩
       have hh2:=hh.symm
       subst hh2
       go_wp2
       exact⟨rfl,by rw[hZ5.out];rfl,HB3.out⟩
     ·have e5:¬(k:Int)<(nl:Int):=by omega
      have hZ0:Hid (Z=0):=by show _=_;rw[← HE2.out,List.drop_eq_nil_of_le (by simp;have:=HNL.out;omega)];rfl
      clear hE2 hck hnc hbw
      go_wp2
      go_end0
      exact⟨by rw[hZ0.out];rfl,HB2.out⟩
 ·have HZ:=hide hz
  have h5:A=5:=by
   have key:∀l:List Int,numsE s.1 l=0∨numsE s.1 l=5:=by
    intro l
    induction l with
    |nil=>exact .inl rfl
    |cons a l ih=>rw[numsE];split;exact ih;exact .inr rfl
   have:=key s.2
   rw[← HA.out]at this
   omega
  have H5:=hide h5
  rw[if_neg hz,panE_no (by decide)]
  clear hz h5
  go_enter func103,ntmps103
  go_wp2
  go_loopw [13] (fun t wr=>∃(j:Nat),j≤q∧t=.int .i64 j∧numsE s.1 (s.2.drop j)=A∧wr=w) (fun t _=>q - (intOf t).toNat)
  case atStart=>exact⟨0,Nat.zero_le _,rfl,HA.out.symm,rfl⟩
  case round=>
   obtain⟨j,hj,rfl,hE,hwr⟩:=hrel
   have hwr2:=hwr.symm
   subst hwr2
   have HE:=hide hE
   clear hE
   by_cases hlt:j<q
   ·have hjl:j<s.2.length:=by have:=HQ.out;omega
    have e1:(j:Int)<(q:Int):=by omega
    have e0:(0:Int)≤(j:Int):=by omega
    have HD:=hide (numsE_drop (g:=s.1) hjl)
    have hrow:=HO.out
    rw[← HQ.out]at hrow
    obtain⟨gg,cap,hv⟩:=own_some hrow (by omega)
    obtain⟨rfl⟩:ro=some ⟨gg,0,none⟩:=by cases hv;rfl
    have cj:=own_cell hrow hjl
    have HC:=hide (HNm.out s.2[j])
    have hjw:IntKind.i64.wrap ((j:Int)+1)=(j:Int)+1:=by rw[IntKind.wrap_i64];omega
    by_cases hn0:numE s.1 s.2[j]=0
    ·have HNx:Hid (numsE s.1 (s.2.drop (j+1))=A):=by show _=_;rw[← HE.out,HD.out,if_pos hn0]
     rw[hn0,panE_yes]at HC
     obtain⟨a,ha⟩:=named (s.2[j])
     rw[← ha]at cj HC
     clear hn0 hrow hv ha hjl HD
     go_wp2_with fail
     refine HC.out.mono ?_
     rintro e w' ⟨rfl,rfl⟩
     go_wp2
     go_roundw
     case rel=>exact⟨j+1,by omega,by go_num,HNx.out,by first|rfl|trivial⟩
     case measure=>simp[intOf];omega
    ·have hn5:numE s.1 s.2[j]=5:=by unfold numE at hn0 ⊢;split;rename_i h;rw[if_pos h]at hn0;exact absurd rfl hn0;rfl
     rw[hn5,panE_no (by decide)]at HC
     obtain⟨a,ha⟩:=named (s.2[j])
     rw[← ha]at cj HC
     clear hn0 hn5 hrow hv ha hjl HD
     go_wp2_with fail
     refine HC.out.mono ?_
     rintro e w' ⟨rfl,rfl⟩
     go_wp2
     exact⟨rfl,rfl,belR _ _⟩
   ·exfalso
    have h1:=HE.out
    rw[List.drop_eq_nil_of_le (by have:=HQ.out;omega)]at h1
    exact HZ.out h1.symm
def ntx(N:NmL)(i:Nat):ByteArray:=(N.getD i (⟨#[]⟩,0)).1
def nnx(N:NmL)(i:Nat):Int:=(N.getD i (⟨#[]⟩,0)).2
theorem ntx_at{N:NmL}{i:Nat}(h:i<N.length):ntx N i=N[i].1:=by unfold ntx;simp[List.getD,h]
theorem nnx_at{N:NmL}{i:Nat}(h:i<N.length):nnx N i=N[i].2:=by unfold nnx;simp[List.getD,h]
def AllNm(N:NmL)(k:Nat):Prop:=∀i,i<k→nmS (ntx N i)=true
def TwAt(N:NmL)(k i:Nat):Prop:=ntx N k=ntx N i∨nnx N k=nnx N i
def NoTw(N:NmL)(m:Nat):Prop:=∀i,i<m→∀k,k<i→¬TwAt N k i
def Rises(N:NmL)(m:Nat):Prop:=∀i,1≤i→i<m→nnx N (i - 1)<nnx N i
def NameE(N:NmL)(z:Int):Prop:=
 (z=1∧∃i,i<N.length∧nmS (ntx N i)=false)∨
 (z=6∧AllNm N N.length∧∃i,i<N.length∧∃k,k<i∧TwAt N k i)∨
 (z=4∧AllNm N N.length∧NoTw N N.length∧∃i,1≤i∧i<N.length∧¬nnx N (i - 1)<nnx N i)∨
 (z=0∧AllNm N N.length∧NoTw N N.length∧Rises N N.length)
theorem NameE.one{N:NmL}{z z':Int}(h:NameE N z)(h':NameE N z'):z=z':=by
 rcases h with⟨rfl,i,hi,hn⟩|⟨rfl,ha,i,hi,k,hk,ht⟩|⟨rfl,ha,hn,i,h1,hi,hr⟩|⟨rfl,ha,hn,hr⟩<;>
  rcases h' with⟨rfl,i',hi',hn'⟩|⟨rfl,ha',i',hi',k',hk',ht'⟩|⟨rfl,ha',hn',i',h1',hi',hr'⟩|⟨rfl,ha',hn',hr'⟩
 all_goals first
  |rfl
  |(exfalso;first|(have:=ha' i hi;rw[hn]at this;cases this)|(have:=ha i' hi';rw[hn']at this;cases this)|exact hn' i hi k hk ht|exact hn i' hi' k' hk' ht'|exact hr (hr' i h1 hi)|exact hr' (hr i' h1' hi'))
theorem ba_ext{a b:ByteArray}(h:a.toList=b.toList):a=b:=by
 rw[ByteArray.toList_eq,ByteArray.toList_eq]at h
 cases a with
 |mk x=>cases b with
  |mk y=>cases x with
   |mk x=>cases y with
    |mk y=>simpa using h
abbrev nmO(a:ByteArray)(b:Int):Obj:=.cells #[.string a,.int .i64 b] 70
theorem nm_cells{w:World}{k:Nat}{a:ByteArray}{b:Int}(h:w.heap[k]? =some (nmO a b)):w.cell? ⟨k,0,none⟩=some (.string a)∧w.cell? ⟨k,1,none⟩=some (.int .i64 b):=by
 constructor<;>simp[World.cell?,h]
theorem checkNames_any(v:Value)(N:NmL)(w:World)(hN:NamesC w v N):Calls prog 104 #[v] w fun e w'=>∃z,NameE N z∧e=panE z∧Below w.heap.size w w':=by
 rcases hN with⟨rfl,rfl⟩|⟨x,c,rfl,hc,hcl⟩
 ·refine (checkNames_nil w).mono ?_
  rintro e w' ⟨rfl,rfl⟩
  exact⟨0,.inr (.inr (.inr ⟨rfl,fun i hi=>by simp at hi,fun i hi=>by simp at hi,fun i _ hi=>by simp at hi⟩)),rfl,belR _ _⟩
 ·obtain ⟨m, hm⟩:=named N.length
  have HM:=hide hm
  rw[← hm]at hc ⊢
  have HCL:Hid (∀W,Below w.heap.size w W→∀j,j<m→W.cell? (x.add (j*2))=some (.string (ntx N j))∧W.cell? ⟨(x.add (j*2)).block,(x.add (j*2)).off+1,none⟩=some (.int .i64 (nnx N j))):=fun W hW j hj=>by
   have hj':j<N.length:=by omega
   rw[ntx_at hj',nnx_at hj']
   have:=hcl j hj'
   exact⟨below_cell hW (lt_of_cell this.1) this.1,below_cell hW (lt_of_cell this.2) this.2⟩
  have HE1:Hid (∀i,i<m→nmS (ntx N i)=false→NameE N 1):=fun i hi hn=>.inl ⟨rfl,i,by omega,hn⟩
  have HE6:Hid (AllNm N m→∀i,i<m→∀k,k<i→TwAt N k i→NameE N 6):=fun ha i hi k hk ht=>.inr (.inl ⟨rfl,by rw[← hm];exact ha,i,by omega,k,hk,ht⟩)
  have HE4:Hid (AllNm N m→NoTw N m→∀i,1≤i→i<m→¬nnx N (i - 1)<nnx N i→NameE N 4):=fun ha hn i h1 hi hr=>.inr (.inr (.inl ⟨rfl,by rw[← hm];exact ha,by rw[← hm];exact hn,i,h1,by omega,hr⟩))
  have HE0:Hid (AllNm N m→NoTw N m→Rises N m→NameE N 0):=fun ha hn hr=>.inr (.inr (.inr ⟨rfl,by rw[← hm];exact ha,by rw[← hm];exact hn,by rw[← hm];exact hr⟩))
  have HMust:=hide (fun k W=>must_no k W)
  have HMusty:=hide (fun k W=>must_yes k W)
  clear hcl hm
  go_enter func104,ntmps104
  go_wp2
  go_loopw [11] (fun t wr=>∃(j:Nat),j≤m∧t=.int .i64 j∧AllNm N j∧Below w.heap.size w wr) (fun t _=>m - (intOf t).toNat)
  case atStart=>exact⟨0,Nat.zero_le _,rfl,fun i hi=>by omega,belR _ _⟩
  case round=>
   obtain⟨j,hj,rfl,hA,hb⟩:=hrel
   obtain⟨w2,hw2⟩:=named wr
   subst hw2
   have HA:=hide hA
   have HB:=hide hb
   clear hA hb
   by_cases hlt:j<m
   ·obtain ⟨m0,m1⟩:=HCL.out w2 HB.out j hlt
    obtain⟨a,ha⟩:=named (ntx N j)
    obtain⟨b,hb⟩:=named (nnx N j)
    rw[← ha]at m0
    rw[← hb]at m1
    obtain⟨w3,hw3⟩:=named (w2.alloc (nmO a b))
    have hX3:w3.heap[w2.heap.size]? =some (nmO a b):=by rw[hw3];exact at_new _ _
    have HB3:Hid (Below w.heap.size w w3):=by show Below _ _ _;rw[hw3];exact HB.out.alloc HB.out.size _
    obtain⟨bx,hbx⟩:=named w2.heap.size
    rw[← hbx]at hX3
    obtain⟨f0,f1⟩:=nm_cells hX3
    have HI:=hide (isName_any a w3)
    obtain⟨z,hz⟩:=named (nmS a)
    have HZ:Hid (nmS (ntx N j)=z):=by show _=_;rw[hz,ha]
    rw[← hz]at HI
    have e5:(j:Int)<(m:Int):=by omega
    have e6:(0:Int)≤(j:Int):=by omega
    have hkw:IntKind.i64.wrap ((j:Int)+1)=(j:Int)+1:=by rw[IntKind.wrap_i64];omega
    simp only[nmO]at hw3
    clear hX3 ha hb hz
    go_upto_region 3 with fail
    rw[← hw3, ←hbx]
    clear hw3 hbx m0 m1
    go_wp2_with fail
    refine HI.out.mono ?_
    rintro e w' ⟨rfl,hh⟩
    subst hh
    cases z with
    |true=>
     go_wp2_with fail
     refine(HMusty.out 1 _).mono ?_
     rintro e w'' ⟨rfl,hh⟩
     have hh2:=hh.symm
     subst hh2
     go_wp2
     go_roundw
     case rel=>exact⟨j+1,by omega,by go_num,fun i hi=>by
      by_cases hij:i=j
      ·rw[hij];exact HZ.out
      ·exact HA.out i (by omega),HB3.out⟩
     case measure=>simp[intOf];omega
    |false=>
     have HN1:=hide (HE1.out j hlt HZ.out)
     go_wp2_with fail
     refine(HMust.out 1 _).mono ?_
     rintro e w'' ⟨rfl,hh⟩
     have hh2:=hh.symm
     subst hh2
     simp only[gives]
     go_wp2
     exact⟨rfl,1,HN1.out,rfl,HB3.out⟩
   ·have e5 :¬(j:Int)<(m:Int):=by omega
    have hAll:AllNm N m:=by have:=HA.out;rw[show j=m by omega]at this;exact this
    have HAll:=hide hAll
    clear hAll HA
    go_wp2
    go_loopw [22] (fun t wr=>∃(i:Nat),i≤m∧t=.int .i64 i∧NoTw N i∧Below w.heap.size w wr) (fun t _=>m - (intOf t).toNat)
    case atStart=>exact⟨0,Nat.zero_le _,rfl,fun i hi=>by omega,HB.out⟩
    case round=>
     obtain⟨i,hi,rfl,hT,hb⟩:=hrel
     obtain⟨w4,hw4⟩:=named wr
     subst hw4
     have HT:=hide hT
     have HB4:=hide hb
     clear hT hb
     by_cases hlt2:i<m
     ·obtain ⟨m0,m1⟩:=HCL.out w4 HB4.out i hlt2
      obtain⟨a,ha⟩:=named (ntx N i)
      obtain⟨b,hb⟩:=named (nnx N i)
      rw[← ha]at m0
      rw[← hb]at m1
      have HAi:=hide ha
      have HBi:=hide hb
      obtain⟨w5,hw5⟩:=named (w4.alloc (nmO a b))
      have hX5:w5.heap[w4.heap.size]? =some (nmO a b):=by rw[hw5];exact at_new _ _
      have HB5:Hid (Below w.heap.size w w5):=by show Below _ _ _;rw[hw5];exact HB4.out.alloc HB4.out.size _
      obtain⟨bx,hbx⟩:=named w4.heap.size
      rw[← hbx]at hX5
      have HX5:=hide hX5
      have e5:(i:Int)<(m:Int):=by omega
      have e6:(0:Int)≤(i:Int):=by omega
      have e7:(i:Int)≤(c:Int):=by omega
      have hkw:IntKind.i64.wrap ((i:Int)+1)=(i:Int)+1:=by rw[IntKind.wrap_i64];omega
      simp only[nmO]at hw5
      clear hX5 ha hb
      go_upto_region 8 with fail
      rw[← hw5, ←hbx]
      clear hw5 hbx m0 m1
      go_wp2
      go_loopw [31] (fun t wr=>∃(k:Nat),k≤i∧t=.int .i64 k∧(∀q,q<k→¬TwAt N q i)∧wr.heap[bx]? =some (nmO a b)∧Below w.heap.size w wr) (fun t _=>i - (intOf t).toNat)
      case atStart=>exact⟨0,Nat.zero_le _,rfl,fun q hq=>by omega,HX5.out,HB5.out⟩
      case round=>
       obtain⟨k,hk,rfl,hQ,hx,hb⟩:=hrel
       obtain⟨w6,hw6⟩:=named wr
       subst hw6
       have HQ:=hide hQ
       have HX6:=hide hx
       have HB6:=hide hb
       clear hQ hx hb HX5 HB5
       by_cases hlt3:k<i
       ·obtain ⟨m0,m1⟩:=HCL.out w6 HB6.out k (by omega)
        obtain⟨a2,ha2⟩:=named (ntx N k)
        obtain⟨b2,hb2⟩:=named (nnx N k)
        rw[← ha2]at m0
        rw[← hb2]at m1
        have HTw:Hid (TwAt N k i↔a2=a∨b2=b):=by show _↔_;unfold TwAt;rw[ha2,hb2,HAi.out,HBi.out]
        obtain⟨w7,hw7⟩:=named (w6.alloc (nmO a2 b2))
        have hX7:w7.heap[w6.heap.size]? =some (nmO a2 b2):=by rw[hw7];exact at_new _ _
        have HXo:Hid (w7.heap[bx]? =some (nmO a b)):=by show _=_;rw[hw7];exact at_old HX6.out
        have HB7:Hid (Below w.heap.size w w7):=by show Below _ _ _;rw[hw7];exact HB6.out.alloc HB6.out.size _
        obtain⟨by2,hby⟩:=named w6.heap.size
        rw[← hby]at hX7
        obtain⟨g0,g1⟩:=nm_cells hX7
        obtain⟨h0',h1'⟩:=nm_cells HXo.out
        have i5:(k:Int)<(i:Int):=by omega
        have i6:(0:Int)≤(k:Int):=by omega
        have hkw2:IntKind.i64.wrap ((k:Int)+1)=(k:Int)+1:=by rw[IntKind.wrap_i64];omega
        simp only[nmO]at hw7
        clear hX7 ha2 hb2
        go_upto_region 11 with fail
        rw[← hw7, ←hby]
        clear hw7 hby m0 m1
        by_cases hab:a=a2
        ·have HN6:=hide (HE6.out HAll.out i hlt2 k hlt3 (HTw.out.2 (.inl hab.symm)))
         have hab1:(a.toList==a2.toList)=true:=by rw[hab];simp
         clear hab
         go_wp2_with fail
         refine(HMust.out 6 _).mono ?_
         rintro e w'' ⟨rfl,hh⟩
         have hh2:=hh.symm
         subst hh2
         simp only[gives]
         go_wp2
         exact⟨rfl,6,HN6.out,rfl,HB7.out⟩
        ·have hab1:(a.toList==a2.toList)=false:=by
          rw[beq_eq_false_iff_ne]
          exact fun hh=>hab (ba_ext hh)
         by_cases hbb:b=b2
         ·have HN6:=hide (HE6.out HAll.out i hlt2 k hlt3 (HTw.out.2 (.inr hbb.symm)))
          have hb1:(b==b2)=true:=by simpa using hbb
          have hb2:(b !=b2)=false:=by simp[hbb]
          clear hab hbb
          go_wp2_with fail
          refine(HMust.out 6 _).mono ?_
          rintro e w'' ⟨rfl,hh⟩
          have hh2:=hh.symm
          subst hh2
          simp only[gives]
          go_wp2
          exact⟨rfl,6,HN6.out,rfl,HB7.out⟩
         ·have hb1:(b==b2)=false:=by simpa using hbb
          have hb2:(b !=b2)=true:=by simpa using hbb
          have HNt:Hid (¬TwAt N k i):=fun hh=>by
           rcases HTw.out.1 hh with h|h
           ·exact hab h.symm
           ·exact hbb h.symm
          clear hab hbb
          go_wp2_with fail
          refine(HMusty.out 6 _).mono ?_
          rintro e w'' ⟨rfl,hh⟩
          have hh2:=hh.symm
          subst hh2
          go_wp2
          go_roundw
          case rel=>exact⟨k+1,by omega,by go_num,fun q hq=>by
           by_cases hqk:q=k
           ·rw[hqk];exact HNt.out
           ·exact HQ.out q (by omega),HXo.out,HB7.out⟩
          case measure=>simp[intOf];omega
       ·have i5:¬(k:Int)<(i:Int):=by omega
        have hki:k=i:=by omega
        have HN:Hid (NoTw N (i+1)):=fun p hp q hq=>by
         by_cases hpi:p=i
         ·rw[hpi]at hq ⊢;exact HQ.out q (by omega)
         ·exact HT.out p (by omega) q hq
        clear hki
        go_wp2
        go_roundw
        case rel=>exact⟨i+1,by omega,by go_num,HN.out,HB6.out⟩
        case measure=>simp[intOf];omega
     ·have e5:¬(i:Int)<(m:Int):=by omega
      have hNo:NoTw N m:=by have:=HT.out;rw[show i=m by omega]at this;exact this
      have HNo:=hide hNo
      clear hNo HT
      go_wp2
      go_loopw [8] (fun t wr=>∃(k:Nat),1≤k∧t=.int .i64 k∧Rises N k∧(k≤m∨k=1)∧Below w.heap.size w wr) (fun t _=>m - (intOf t).toNat)
      case atStart=>exact⟨1,leR _,rfl,fun p h1 h2=>by omega,.inr rfl,HB4.out⟩
      case round=>
       obtain⟨k,hk1,rfl,hR,hkm,hb⟩:=hrel
       obtain⟨w6,hw6⟩:=named wr
       subst hw6
       have HR:=hide hR
       have HB6:=hide hb
       clear hR hb
       by_cases hlt3:k<m
       ·obtain ⟨m0,m1⟩:=HCL.out w6 HB6.out k hlt3
        obtain⟨l0,l1⟩:=HCL.out w6 HB6.out (k - 1) (by omega)
        obtain⟨p,hp⟩:=named (k - 1)
        have hpk:IntKind.i64.wrap ((k:Int) - 1)=(p:Int):=by rw[IntKind.wrap_i64];omega
        have i1:(0:Int)≤(p:Int):=by omega
        have i2:(p:Int)<(m:Int):=by omega
        have i3:(0:Int)≤(k:Int):=by omega
        have i4:(k:Int)<(m:Int):=by omega
        have hkw:IntKind.i64.wrap ((k:Int)+1)=(k:Int)+1:=by rw[IntKind.wrap_i64];omega
        obtain⟨b,hb⟩:=named (nnx N k)
        obtain⟨b2,hb2⟩:=named (nnx N (k - 1))
        have HBB:Hid (b2<b↔nnx N (k - 1)<nnx N k):=by show _↔_;rw[hb,hb2]
        rw[← hb]at m1
        rw[← hb2]at l1
        rw[← hp]at l1
        clear m0 l0 hb hb2 hp
        by_cases hbb:b2<b
        ·have HRs:Hid (Rises N (k+1)):=fun q h1 h2=>by
          by_cases hqk:q=k
          ·rw[hqk];exact HBB.out.1 hbb
          ·exact HR.out q h1 (by omega)
         go_wp2
         go_still_tail 12,(by kernel_rfl)
         go_wp2_with fail
         refine(HMusty.out 4 _).mono ?_
         rintro e w'' ⟨rfl,hh⟩
         have hh2:=hh.symm
         subst hh2
         go_wp2
         go_roundw
         case rel=>exact⟨k+1,by omega,by go_num,HRs.out,by omega,HB6.out.trans ⟨rfl,rfl,rfl,leR _,fun _ _=>rfl⟩⟩
         case measure=>simp[intOf];omega
        ·have HN4:=hide (HE4.out HAll.out HNo.out k hk1 hlt3 (by have h9:¬nnx N (k - 1)<nnx N k:=fun hh=>hbb (HBB.out.2 hh);omega))
         go_wp2
         go_still_tail 12,(by kernel_rfl)
         go_wp2_with fail
         rw[show decide (b2<b)=false from decide_eq_false (by omega)]
         refine(HMust.out 4 _).mono ?_
         rintro e w'' ⟨rfl,hh⟩
         have hh2:=hh.symm
         subst hh2
         simp only[gives]
         go_wp2
         exact⟨rfl,4,HN4.out,rfl,HB6.out.trans ⟨rfl,rfl,rfl,leR _,fun _ _=>rfl⟩⟩
       ·have i4:¬(k:Int)<(m:Int):=by omega
        have HN0:=hide (HE0.out HAll.out HNo.out (fun q h1 h2=>HR.out q h1 (by omega)))
        go_wp2
        go_end0
        exact⟨0,HN0.out,rfl,HB6.out⟩
theorem nodeS_errz{t:Tr}{s:St}{z:Int}(h:nodeS t s=.error z):z≠0:=by
 unfold nodeS at h
 split at h
 ·injection h with h;omega
 ·split at h
  ·injection h with h;omega
  ·split at h
   ·rename_i h3;injection h with h;rw[← h];exact h3
   ·split at h
    ·split at h
     ·cases h
     ·rename_i h4;injection h with h;rw[← h];exact h4
    ·split at h
     ·split at h
      ·cases h
      ·injection h with h;omega
     ·split at h<;>cases h
mutual
theorem chkT_errz:∀(t:Tr) (s:St) (z:Int),chkT t s=.error z→z≠0
 | .mk k a b c d e f kids,s,z,h=>by
  rw[chkT_kids]at h
  cases hn:nodeS (.mk k a b c d e f kids) s with
  |error y=>rw[hn]at h;injection h with h;rw[← h];exact nodeS_errz hn
  |ok s1=>rw[hn]at h;exact chkL_errz kids s1 z h
theorem chkL_errz:∀(ts:List Tr) (s:St) (z:Int),chkL ts s=.error z→z≠0
 |[],s,z,h=>by cases h
 |t::ts,s,z,h=>by
  unfold chkL at h
  cases hn:chkT t s with
  |error y=>rw[hn]at h;injection h with h;rw[← h];exact chkT_errz t s y hn
  |ok s1=>rw[hn]at h;exact chkL_errz ts s1 z h
end
def ChkE(t:Tr)(g:Int)(N:NmL)(z:Int):Prop:=
 (treeE t g≠0∧z=treeE t g)∨(treeE t g=0∧numsE g (N.map (·.2))≠0∧z=5)∨(treeE t g=0∧numsE g (N.map (·.2))=0∧NameE N z)
def PatE(t:Tr)(g:Int)(N:NmL)(z:Int):Prop:=(¬cntA t<1001∧z=2)∨(cntA t<1001∧ChkE t g N z)
theorem PatE.one{t:Tr}{g:Int}{N:NmL}{z z':Int}(h:PatE t g N z)(h':PatE t g N z'):z=z':=by
 rcases h with⟨h1,rfl⟩|⟨h1,h2⟩
 ·rcases h' with⟨_,rfl⟩|⟨h3,_⟩
  ·rfl
  ·exact absurd h3 h1
 ·rcases h' with⟨h3,_⟩|⟨_,h4⟩
  ·exact absurd h1 h3
  ·rcases h2 with⟨a,rfl⟩|⟨a,b,rfl⟩|⟨a,b,c⟩<;>rcases h4 with⟨a',rfl⟩|⟨a',b',rfl⟩|⟨a',b',c'⟩
   all_goals first
    |rfl
    |exact absurd a' a
    |exact absurd a a'
    |exact absurd b' b
    |exact absurd b b'
    |exact c.one c'
abbrev patNV(n:NV)(g:Int)(na:Option Addr)(nl nc:Nat):Value:=.agg #[.int .i64 n.kind,.slice n.sa n.sl n.sc,.slice n.ka n.kl n.kc,.int .i64 n.num,.int .i64 n.least,.int .i64 n.most,.int .i64 n.way,.bool n.fold,.int .i64 g,.slice na nl nc]
abbrev patNO(n:NV)(g:Int)(na:Option Addr)(nl nc:Nat):Obj:=.cells #[.int .i64 n.kind,.slice n.sa n.sl n.sc,.slice n.ka n.kl n.kc,.int .i64 n.num,.int .i64 n.least,.int .i64 n.most,.int .i64 n.way,.bool n.fold,.int .i64 g,.slice na nl nc] 35
theorem patN_cells{w:World}{k:Nat}{n:NV}{g:Int}{na:Option Addr}{nl nc:Nat}(h:w.heap[k]? =some (patNO n g na nl nc)):NCells w ⟨k,0,none⟩ n∧w.cell? ⟨k,8,none⟩=some (.int .i64 g)∧w.cell? ⟨k,9,none⟩=some (.slice na nl nc):=by
 refine⟨⟨?_,?_,?_,?_,?_,?_,?_,?_⟩,?_,?_⟩<;>simp[World.cell?,h]
theorem check_any'(n:NV)(t:Tr)(g:Int)(na:Option Addr)(nl nc:Nat)(N:NmL)(w:World)(h:NodeC w n t)(hNm:NamesC w (.slice na nl nc) N)(hsz:szT t≤1000):Calls prog 63 #[patNV n g na nl nc] w fun e w'=>∃z,ChkE t g N z∧e=.returned (.int .i64 z)∧Below w.heap.size w w':=by
 have hmf:∀(fn:Fn) (first cap:Array Value) (w:World),(Instr.makeFunc fn first cap).run prog w=.ok (.func fn first cap) w:=fun _ _ _ _=>rfl
 have hb2:Below w.heap.size w ((w.alloc (patNO n g na nl nc)).alloc (errO 0)):=(allocB w _).alloc (by simp) _
 obtain⟨w2,hw2⟩:=named ((w.alloc (patNO n g na nl nc)).alloc (errO 0))
 have hs2:w2.heap.size=w.heap.size+2:=by rw[hw2];simp
 have hN2:NodeC w2 n t:=by rw[hw2];exact h.keep hb2
 have hp2:w2.heap[w.heap.size]? =some (patNO n g na nl nc):=by rw[hw2];exact at_old (at_new _ _)
 have he2:w2.heap[w.heap.size+1]? =some (errO 0):=by rw[hw2];exact at_new' _ _ (by simp)
 have hb3:Below w2.heap.size w2 (w2.alloc (.cells #[.int .i64 0,.slice none 0 0] 155)):=allocB _ _
 have hck:CK w2.heap.size (w2.alloc (.cells #[.int .i64 0,.slice none 0 0] 155)) (w.heap.size+2) (0,[]):=
  ⟨by omega,_,at_new' _ _ (by omega),⟨rfl,.inl ⟨rfl,rfl⟩⟩,by intro e;cases e⟩
 obtain⟨w3,hw3⟩:=named (w2.alloc (.cells #[.int .i64 0,.slice none 0 0] 155))
 rw[← hw3]at hb3 hck
 have HT:=hide (node_any hN2 (w.heap.size+2) w3 (0,[]) hb3 hck ⟨by simp,by simp;omega,by simp;omega⟩)
 have HB2:Hid (Below w.heap.size w w2):=by show Below _ _ _;rw[hw2];exact hb2
 have HB3:=hide hb3
 have HNm:=hide hNm
 have HP2:=hide hp2
 have HE2:=hide he2
 have HS2:=hide hs2
 have hGr:∀s,chkT t (0,[])=.ok s→s.2.length≤1000000:=fun s hs=>by have:=chkT_grow _ _ _ hs;simp at this;omega
 have HGr:=hide hGr
 obtain⟨P3c,P3g,P3n⟩:=patN_cells (show w3.heap[w.heap.size]? =some (patNO n g na nl nc) by rw[hb3.block _ (by omega)];exact hp2)
 obtain⟨d0,d1,d2,d3,d4,d5,d6,d7⟩:=P3c
 simp only[patNO,errO]at hw2
 subst hw2
 clear h hNm hb2 hs2 hN2 hp2 he2 hb3 hck hsz hGr
 simp only[patNV]
 go_enter_defers func63,ntmps63
 go_wp2_with fail
 rw[← hw3]
 clear hw3 d0 d1 d2 d3 d4 d5 d6 d7 P3g P3n
 refine HT.out.mono ?_
 rintro e w4 ⟨hb4,⟨s,hR,rfl,hck4⟩|⟨z,hR,rfl⟩⟩
 ·have hb4w:=HB3.out.trans hb4
  have HP4:Hid (w4.heap[w.heap.size]? =some (patNO n g na nl nc)):=by show _=_;rw[hb4w.block _ (by have:=HS2.out;omega)];exact HP2.out
  have HE4:Hid (w4.heap[w.heap.size+1]? =some (errO 0)):=by show _=_;rw[hb4w.block _ (by have:=HS2.out;omega)];exact HE2.out
  have HBw:Hid (Below w.heap.size w w4):=HB2.out.andT hb4w
  have HCK:=hide hck4
  have HR:=hide hR
  have hln:=HGr.out s hR
  obtain⟨P4c,P4g,P4n⟩:=patN_cells HP4.out
  have HCo:=hide (counts_any _ _ s g w4 hck4)
  have HNm4:=hide (HNm.out.below HBw.out)
  have HNu:=hide (numbers_any _ _ s _ N w4 hck4 hln HNm4.out)
  have ce:=cell_of_one HE4.out
  have cf:=free_of_one HE4.out
  clear hb4 hck4 hR hln hb4w P4c HT HGr HB2 HB3 HP2 HE2 HS2
  by_cases hc:countsE s g=0
  ·rw [hc, panE_yes]at HCo
   have hsg:s.1=g:=by unfold countsE at hc;split at hc;omega;split at hc;assumption;omega
   by_cases hn:numsE s.1 s.2=0
   ·have hF:treeE t g=0:=by unfold treeE;rw[HR.out];simp only;rw[if_neg (by omega),hn]
    rw[if_pos hn,hsg]at HNu
    by_cases hm:numsE g (N.map (·.2))=0
    ·have HZ:Hid (∀z,NameE N z→ChkE t g N z):=fun z hz=>.inr (.inr ⟨hF,hm,hz⟩)
     rw[hm,panE_yes]at HNu
     clear hc hn hm hF hsg
     go_wp2_with fail
     refine HCo.out.mono ?_
     rintro e w' ⟨rfl,rfl⟩
     go_wp2_with fail
     refine HNu.out.mono ?_
     rintro e w5 ⟨rfl,hb5⟩
     have HE5:=hide (show w5.heap[w.heap.size+1]? =some (errO 0) by rw[hb5.block _ (lt_of_block HE4.out)];exact HE4.out)
     have HP5:=hide (show w5.heap[w.heap.size]? =some (patNO n g na nl nc) by rw[hb5.block _ (lt_of_block HP4.out)];exact HP4.out)
     have HB5:=hide (HBw.out.andT hb5)
     have HN5:=hide (HNm4.out.below hb5)
     clear hb5 ce cf P4g P4n HNu
     obtain⟨P4c,P4g,P4n⟩:=patN_cells HP5.out
     clear P4c
     go_wp2_with fail
     refine(checkNames_any _ N w5 HN5.out).mono ?_
     rintro e w6 ⟨z,hz,rfl,hb6⟩
     have HE6:=hide (show w6.heap[w.heap.size+1]? =some (errO 0) by rw[hb6.block _ (lt_of_block HE5.out)];exact HE5.out)
     have HB6:=hide (HB5.out.andT hb6)
     have HZz:=hide (HZ.out z hz)
     clear hb6 hz
     have ce:=cell_of_one HE6.out
     have cf:=free_of_one HE6.out
     by_cases hz0:z=0
     ·subst hz0
      rw[panE_yes]
      go_wp2
      refine leave_ok (N:=w.heap.size+1) (z:=0) rfl (one_setCell HE6.out) ⟨0,HZz.out,rfl,HB6.out.setCell (by show w.heap.size≤w.heap.size+1;omega) _⟩
     ·rw [panE_no hz0]
      clear hz0
      go_wp2
      exact leave_pan (N:=w.heap.size+1) (a:=0) (z:=z) rfl HE6.out ⟨z,HZz.out,rfl,HB6.out.setCell (by show w.heap.size≤w.heap.size+1;omega) _⟩
    ·have HZ:Hid (ChkE t g N 5):=.inr (.inl ⟨hF,hm,rfl⟩)
     have h5:numsE g (N.map (·.2))=5:=by
      have key:∀l:List Int,numsE g l=0∨numsE g l=5:=by
       intro l
       induction l with
       |nil=>exact .inl rfl
       |cons a l ih=>rw[numsE];split;exact ih;exact .inr rfl
      have:=key (N.map (·.2))
      omega
     rw[h5,panE_no (by decide)]at HNu
     clear hc hn hm hF hsg h5
     go_wp2_with fail
     refine HCo.out.mono ?_
     rintro e w' ⟨rfl,rfl⟩
     go_wp2_with fail
     refine HNu.out.mono ?_
     rintro e w5 ⟨rfl,hb5⟩
     have HE5:=hide (show w5.heap[w.heap.size+1]? =some (errO 0) by rw[hb5.block _ (lt_of_block HE4.out)];exact HE4.out)
     have HB5:=hide (HBw.out.andT hb5)
     clear hb5 ce cf P4g P4n HNu
     go_wp2
     exact leave_pan (N:=w.heap.size+1) (a:=0) (z:=5) rfl HE5.out ⟨5,HZ.out,rfl,HB5.out.setCell (by show w.heap.size≤w.heap.size+1;omega) _⟩
   ·have hF:treeE t g=numsE s.1 s.2:=by unfold treeE;rw[HR.out];simp only;rw[if_neg (by omega)]
    have h5:numsE s.1 s.2=5:=by
     have key:∀l:List Int,numsE s.1 l=0∨numsE s.1 l=5:=by
      intro l
      induction l with
      |nil=>exact .inl rfl
      |cons a l ih=>rw[numsE];split;exact ih;exact .inr rfl
     have:=key s.2
     omega
    have HZ:Hid (ChkE t g N 5):=.inl ⟨by rw[hF];exact hn,by rw[hF,h5]⟩
    rw[if_neg hn,panE_no (by decide)]at HNu
    clear hc hn hF hsg h5
    go_wp2_with fail
    refine HCo.out.mono ?_
    rintro e w' ⟨rfl,rfl⟩
    go_wp2_with fail
    refine HNu.out.mono ?_
    rintro e w5 ⟨rfl,hb5⟩
    have HE5:=hide (show w5.heap[w.heap.size+1]? =some (errO 0) by rw[hb5.block _ (lt_of_block HE4.out)];exact HE4.out)
    have HB5:=hide (HBw.out.andT hb5)
    clear hb5 ce cf P4g P4n HNu
    go_wp2
    exact leave_pan (N:=w.heap.size+1) (a:=0) (z:=5) rfl HE5.out ⟨5,HZ.out,rfl,HB5.out.setCell (by show w.heap.size≤w.heap.size+1;omega) _⟩
  ·have hF:treeE t g=countsE s g:=by unfold treeE;rw[HR.out];simp only;rw[if_pos hc]
   have HZ:Hid (ChkE t g N (countsE s g)):=.inl ⟨by rw[hF];exact hc,hF.symm⟩
   rw[panE_no hc]at HCo
   obtain⟨z,hz⟩:=named (countsE s g)
   rw[← hz]at HCo HZ
   clear hc hz hF
   go_wp2_with fail
   refine HCo.out.mono ?_
   rintro e w' ⟨rfl,rfl⟩
   go_wp2
   exact leave_pan (N:=w.heap.size+1) (a:=0) (z:=z) rfl HE4.out ⟨z,HZ.out,rfl,HBw.out.setCell (by show w.heap.size≤w.heap.size+1;omega) _⟩
 ·have hb4w:=HB3.out.trans hb4
  have HE4:Hid (w4.heap[w.heap.size+1]? =some (errO 0)):=by show _=_;rw[hb4w.block _ (by have:=HS2.out;omega)];exact HE2.out
  have HBw:Hid (Below w.heap.size w w4):=HB2.out.andT hb4w
  have hF:treeE t g=z:=by unfold treeE;rw[hR]
  have HZ:Hid (ChkE t g N z):=.inl ⟨by rw[hF];exact chkT_errz _ _ _ hR,hF.symm⟩
  clear hF
  clear hb4 hR hb4w HT HGr HB2 HB3 HP2 HE2 HS2
  go_wp2
  exact leave_pan (N:=w.heap.size+1) (a:=0) (z:=z) rfl HE4.out ⟨z,HZ.out,rfl,HBw.out.setCell (by show w.heap.size≤w.heap.size+1;omega) _⟩
theorem showCheck_any(n:NV)(t:Tr)(g:Int)(na:Option Addr)(nl nc:Nat)(N:NmL)(w:World)(h:NodeC w n t)(hNm:NamesC w (.slice na nl nc) N):Calls prog 40 #[patNV n g na nl nc] w fun e w'=>∃z,PatE t g N z∧e=.returned (.int .i64 z)∧Below w.heap.size w w':=by
 have hb:Below w.heap.size w (w.alloc (patNO n g na nl nc)):=allocB _ _
 have HC:=hide (nodes_any n t _ (h.box (patNO n g na nl nc)))
 have HK:=hide (fun W (hW:Below w.heap.size w W) (hs:szT t≤1000)=>check_any' n t g na nl nc N W (h.keep hW) (hNm.below hW) hs)
 obtain⟨w1,hw1⟩:=named (w.alloc (patNO n g na nl nc))
 have hbox:w1.heap[w.heap.size]? =some (patNO n g na nl nc):=by rw[hw1];exact at_new _ _
 rw[← hw1]at hb HC
 have HB:=hide hb
 have HX:=hide hbox
 obtain⟨⟨d0,d1,d2,d3,d4,d5,d6,d7⟩,d8,d9⟩:=patN_cells hbox
 simp only[patNO]at hw1
 simp only[patNV]at HK ⊢
 have HSz:Hid (cntA t<1001→szT t≤1000):=cntA_sz
 clear h hNm hb hbox
 by_cases hlt:cntA t<1001
 ·have HF:Hid (∀z,ChkE t g N z→PatE t g N z):=fun z hz=>.inr ⟨hlt,hz⟩
  have hs:=HSz.out hlt
  rw[if_pos hlt,if_pos hlt]at HC
  obtain⟨q,hq⟩:=named (cntA t)
  rw[← hq]at HC
  clear hlt hq HSz
  go_enter func40,ntmps40
  go_wp2_with fail
  rw[← hw1]
  clear hw1
  refine HC.out.mono ?_
  rintro e w2 ⟨rfl,hb2⟩
  have HB2:=hide (HB.out.andT hb2)
  obtain⟨⟨b0,b1,b2,b3,b4,b5,b6,b7⟩,b8,b9⟩:=patN_cells (show w2.heap[w.heap.size]? =some (patNO n g na nl nc) by rw[hb2.block _ (lt_of_block HX.out)];exact HX.out)
  clear hb2 HC d0 d1 d2 d3 d4 d5 d6 d7 d8 d9
  go_wp2_with fail
  refine(HK.out w2 HB2.out hs).mono ?_
  rintro e w3 ⟨z,hz,rfl,hb3⟩
  have HB3:=hide (HB2.out.andT hb3)
  have HZ:=hide (HF.out z hz)
  clear hb3 hz b0 b1 b2 b3 b4 b5 b6 b7 b8 b9
  go_wp2
  go_ret
  exact⟨z,HZ.out,rfl,HB3.out⟩
 ·have HF:Hid (PatE t g N 2):=.inl ⟨hlt,rfl⟩
  rw[if_neg hlt,if_neg hlt]at HC
  clear hlt HSz
  go_enter func40,ntmps40
  go_wp2_with fail
  rw[← hw1]
  clear hw1
  refine HC.out.mono ?_
  rintro e w2 ⟨rfl,hb2⟩
  have HB2:=hide (HB.out.andT hb2)
  clear hb2 HC d0 d1 d2 d3 d4 d5 d6 d7 d8 d9
  go_wp2
  go_ret
  exact⟨2,HF.out,rfl,HB2.out⟩
end Go.Proofs.YtfnndcbjklppeaaGreatDoor
