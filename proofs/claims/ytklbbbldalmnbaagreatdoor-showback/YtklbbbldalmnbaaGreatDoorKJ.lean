import Derived.Test.YtklbbbldalmnbaaGreatDoorKI
import Derived.Defers
import Derived.Recover
import Derived.RegionTactic
set_option maxHeartbeats 16000000
set_option linter.unusedVariables false
set_option maxRecDepth 100000
open Go.Proofs.Tryz
namespace Go.Proofs.YtklbbbldalmnbaaGreatDoor.TK
open Go.RowKit
theorem AG{b:Nat}{x:Addr}{c:Nat}{l:List Int}{i:Nat}{d:Int}(w:World)(h:RB w b x c l i d)(hi:i<l.length):Calls prog 84 #[.pointer (some ⟨b,0,none⟩)] w fun e w'=>mV b x c l d w (aQ d l i) e w':=by
 have hlt:=h.lt
 have hxw:=h.xw
 have hat:=h.at'
 have hw0:=h.alloc (aq {})
 have HT:=I (qP _ hw0 hi)
 have hE0:Hid (aQ d l i=j9 d l i l[i]):=by show _=_;unfold aQ;rw[List.getElem?_eq_getElem hi]
 obtain⟨p,hp⟩:∃p,p=l[i]:=⟨_,rfl⟩
 rw[<- hp]at HT hE0
 clear h hw0 hp
 by_cases hp92:p=92
 ·subst hp92
  have HR:Hid (aQ d l i=jy d l (i+1)):=by show _=_;rw[hE0.o];unfold j9;simp
  clear hE0
  go_enter func84,ntmps84
  go_wp2_with fail
  simp only[aq]at HT
  refine HT.o.mono ?_
  rintro e w1 ⟨rfl,hr1,hm1⟩
  go_wp2_with fail
  refine(yt w1 hr1).mono ?_
  rintro e w3 (⟨t,k,hR,rfl,hr,hm9⟩|⟨z,hR,rfl,hm9⟩)
  ·have hE:=I (HR.o.trans hR)
   have hm:=hm1.trans hm9
   have hN:w3.heap[w.heap.size]? =some (aq {}):=hm.aC (aj _ _) (by omega)
   obtain⟨m0,m1,m2,m3,m4,m5,m6,m7⟩:=ai hN
   have fr0:=au hN
   have hq0:w.heap.size<w3.heap.size:=lt_of_block hN
   have hq1:¬w.heap.size=w3.heap.size:=by omega
   have hq2:¬w3.heap.size=w.heap.size:=by omega
   have HRR:=I hr
   have HMM:=I hm
   clear hr hm hm9 hR HR hr1 hm1 HT
   simp only[aZ]
   go_wp21
   go_wp21
   exact aK (N:=w.heap.size) rfl rfl (aI hN t) (.inl ⟨t,k,hE.o,rfl,HRR.o.tok (by omega) (by omega) _ _ _ _ _ _ _ _,Mv.tok (((Mv.refl b w).alloc _).trans HMM.o) (U _) _ _ _ _ _ _ _ _⟩)
  ·have hE:=I (HR.o.trans hR)
   have hm:=hm1.trans hm9
   have HMM:=I hm
   clear hm hm9 hR HR hr1 hm1 HT
   simp only[bK]
   go_wp2
   exact⟨rfl,.inr ⟨z,hE.o,rfl,((Mv.refl b w).alloc _).trans HMM.o⟩⟩
 by_cases hp46:p=46
 ·subst hp46
  have hE:Hid (aQ d l i=.ok ({ kind:=2 },i+1)):=by show _=_;rw[hE0.o];unfold j9;simp
  clear hE0
  go_enter func84,ntmps84
  go_wp2_with fail
  simp only[aq]at HT
  refine HT.o.mono ?_
  rintro e w1 ⟨rfl,hr1,hm1⟩
  have hr:=hr1
  have hm:=hm1
  have hN:w1.heap[w.heap.size]? =some (aq {}):=hm.aC (aj _ _) (by omega)
  obtain⟨m0,m1,m2,m3,m4,m5,m6,m7⟩:=ai hN
  have fr0:=au hN
  have hq0:w.heap.size<w1.heap.size:=lt_of_block hN
  have hq1:¬w.heap.size=w1.heap.size:=by omega
  have hq2:¬w1.heap.size=w.heap.size:=by omega
  have HRR:=I hr
  have HMM:=I hm
  clear hr hm hr1 hm1 HT
  go_wp21
  go_wp21
  go_wp21
  exact aK (N:=w.heap.size) rfl rfl (aI hN { kind:=2 }) (.inl ⟨{ kind:=2 },(i+1),hE.o,rfl,HRR.o.tok (by omega) (by omega) _ _ _ _ _ _ _ _,Mv.tok (((Mv.refl b w).alloc _).trans HMM.o) (U _) _ _ _ _ _ _ _ _⟩)
 by_cases hp91:p=91
 ·subst hp91
  have hE:Hid (aQ d l i=.ok ({ kind:=5 },i+1)):=by show _=_;rw[hE0.o];unfold j9;simp
  clear hE0
  go_enter func84,ntmps84
  go_wp2_with fail
  simp only[aq]at HT
  refine HT.o.mono ?_
  rintro e w1 ⟨rfl,hr1,hm1⟩
  have hr:=hr1
  have hm:=hm1
  have hN:w1.heap[w.heap.size]? =some (aq {}):=hm.aC (aj _ _) (by omega)
  obtain⟨m0,m1,m2,m3,m4,m5,m6,m7⟩:=ai hN
  have fr0:=au hN
  have hq0:w.heap.size<w1.heap.size:=lt_of_block hN
  have hq1:¬w.heap.size=w1.heap.size:=by omega
  have hq2:¬w1.heap.size=w.heap.size:=by omega
  have HRR:=I hr
  have HMM:=I hm
  clear hr hm hr1 hm1 HT
  go_wp21
  go_wp21
  go_wp21
  exact aK (N:=w.heap.size) rfl rfl (aI hN { kind:=5 }) (.inl ⟨{ kind:=5 },(i+1),hE.o,rfl,HRR.o.tok (by omega) (by omega) _ _ _ _ _ _ _ _,Mv.tok (((Mv.refl b w).alloc _).trans HMM.o) (U _) _ _ _ _ _ _ _ _⟩)
 by_cases hp94:p=94
 ·subst hp94
  have hE:Hid (aQ d l i=.ok (bn 3,i+1)):=by show _=_;rw[hE0.o];unfold j9;simp
  clear hE0
  go_enter func84,ntmps84
  go_wp2_with fail
  simp only[aq]at HT
  refine HT.o.mono ?_
  rintro e w1 ⟨rfl,hr1,hm1⟩
  go_wp2_with fail
  refine(eP 3 w1).mono ?_
  rintro e w2 ⟨rfl,hb2⟩
  have hr:=hr1.ar hb2
  have hm:=hm1.trans (Mv.ae hb2)
  have hN:w2.heap[w.heap.size]? =some (aq {}):=hm.aC (aj _ _) (by omega)
  obtain⟨m0,m1,m2,m3,m4,m5,m6,m7⟩:=ai hN
  have fr0:=au hN
  have hq0:w.heap.size<w2.heap.size:=lt_of_block hN
  have hq1:¬w.heap.size=w2.heap.size:=by omega
  have hq2:¬w2.heap.size=w.heap.size:=by omega
  have HRR:=I hr
  have HMM:=I hm
  clear hr hm hr1 hm1 hb2 HT
  simp only[aZ,bn]
  go_wp21
  go_wp21
  go_wp21
  exact aK (N:=w.heap.size) rfl rfl (aI hN (bn 3)) (.inl ⟨(bn 3),(i+1),hE.o,rfl,HRR.o.tok (by omega) (by omega) _ _ _ _ _ _ _ _,Mv.tok (((Mv.refl b w).alloc _).trans HMM.o) (U _) _ _ _ _ _ _ _ _⟩)
 by_cases hp36:p=36
 ·subst hp36
  have hE:Hid (aQ d l i=.ok (bn 4,i+1)):=by show _=_;rw[hE0.o];unfold j9;simp
  clear hE0
  go_enter func84,ntmps84
  go_wp2_with fail
  simp only[aq]at HT
  refine HT.o.mono ?_
  rintro e w1 ⟨rfl,hr1,hm1⟩
  go_wp2_with fail
  refine(eP 4 w1).mono ?_
  rintro e w2 ⟨rfl,hb2⟩
  have hr:=hr1.ar hb2
  have hm:=hm1.trans (Mv.ae hb2)
  have hN:w2.heap[w.heap.size]? =some (aq {}):=hm.aC (aj _ _) (by omega)
  obtain⟨m0,m1,m2,m3,m4,m5,m6,m7⟩:=ai hN
  have fr0:=au hN
  have hq0:w.heap.size<w2.heap.size:=lt_of_block hN
  have hq1:¬w.heap.size=w2.heap.size:=by omega
  have hq2:¬w2.heap.size=w.heap.size:=by omega
  have HRR:=I hr
  have HMM:=I hm
  clear hr hm hr1 hm1 hb2 HT
  simp only[aZ,bn]
  go_wp21
  go_wp21
  go_wp21
  exact aK (N:=w.heap.size) rfl rfl (aI hN (bn 4)) (.inl ⟨(bn 4),(i+1),hE.o,rfl,HRR.o.tok (by omega) (by omega) _ _ _ _ _ _ _ _,Mv.tok (((Mv.refl b w).alloc _).trans HMM.o) (U _) _ _ _ _ _ _ _ _⟩)
 by_cases hp42:p=42
 ·subst hp42
  obtain⟨t,k,ht⟩:∃t k,cD d l (i+1) 0 (-1)=(t,k):=⟨_,_,rfl⟩
  have hE:Hid (aQ d l i=.ok (t,k)):=by show _=_;rw[hE0.o, <-ht];unfold j9;simp
  have HC:=I (fun w1 (h1:RB w1 b x c l (i+1) d)=>fa 0 (-1) w1 h1)
  rw[ht]at HC
  clear hE0 ht
  go_enter func84,ntmps84
  go_wp2_with fail
  simp only[aq]at HT
  refine HT.o.mono ?_
  rintro e w1 ⟨rfl,hr1,hm1⟩
  go_wp2_with fail
  refine(HC.o w1 hr1).mono ?_
  rintro e w2 ⟨rfl,hr,hm2⟩
  have hm:=hm1.trans hm2
  have hN:w2.heap[w.heap.size]? =some (aq {}):=hm.aC (aj _ _) (by omega)
  obtain⟨m0,m1,m2,m3,m4,m5,m6,m7⟩:=ai hN
  have fr0:=au hN
  have hq0:w.heap.size<w2.heap.size:=lt_of_block hN
  have hq1:¬w.heap.size=w2.heap.size:=by omega
  have hq2:¬w2.heap.size=w.heap.size:=by omega
  have HRR:=I hr
  have HMM:=I hm
  clear hr hm hr1 hm1 hm2 HT HC
  simp only[aZ]
  go_wp21
  go_wp21
  go_wp21
  exact aK (N:=w.heap.size) rfl rfl (aI hN t) (.inl ⟨t,k,hE.o,rfl,HRR.o.tok (by omega) (by omega) _ _ _ _ _ _ _ _,Mv.tok (((Mv.refl b w).alloc _).trans HMM.o) (U _) _ _ _ _ _ _ _ _⟩)
 by_cases hp43:p=43
 ·subst hp43
  obtain⟨t,k,ht⟩:∃t k,cD d l (i+1) 1 (-1)=(t,k):=⟨_,_,rfl⟩
  have hE:Hid (aQ d l i=.ok (t,k)):=by show _=_;rw[hE0.o, <-ht];unfold j9;simp
  have HC:=I (fun w1 (h1:RB w1 b x c l (i+1) d)=>fa 1 (-1) w1 h1)
  rw[ht]at HC
  clear hE0 ht
  go_enter func84,ntmps84
  go_wp2_with fail
  simp only[aq]at HT
  refine HT.o.mono ?_
  rintro e w1 ⟨rfl,hr1,hm1⟩
  go_wp2_with fail
  refine(HC.o w1 hr1).mono ?_
  rintro e w2 ⟨rfl,hr,hm2⟩
  have hm:=hm1.trans hm2
  have hN:w2.heap[w.heap.size]? =some (aq {}):=hm.aC (aj _ _) (by omega)
  obtain⟨m0,m1,m2,m3,m4,m5,m6,m7⟩:=ai hN
  have fr0:=au hN
  have hq0:w.heap.size<w2.heap.size:=lt_of_block hN
  have hq1:¬w.heap.size=w2.heap.size:=by omega
  have hq2:¬w2.heap.size=w.heap.size:=by omega
  have HRR:=I hr
  have HMM:=I hm
  clear hr hm hr1 hm1 hm2 HT HC
  simp only[aZ]
  go_wp21
  go_wp21
  go_wp21
  exact aK (N:=w.heap.size) rfl rfl (aI hN t) (.inl ⟨t,k,hE.o,rfl,HRR.o.tok (by omega) (by omega) _ _ _ _ _ _ _ _,Mv.tok (((Mv.refl b w).alloc _).trans HMM.o) (U _) _ _ _ _ _ _ _ _⟩)
 by_cases hp63:p=63
 ·subst hp63
  obtain⟨t,k,ht⟩:∃t k,cD d l (i+1) 0 1=(t,k):=⟨_,_,rfl⟩
  have hE:Hid (aQ d l i=.ok (t,k)):=by show _=_;rw[hE0.o, <-ht];unfold j9;simp
  have HC:=I (fun w1 (h1:RB w1 b x c l (i+1) d)=>fa 0 1 w1 h1)
  rw[ht]at HC
  clear hE0 ht
  go_enter func84,ntmps84
  go_wp2_with fail
  simp only[aq]at HT
  refine HT.o.mono ?_
  rintro e w1 ⟨rfl,hr1,hm1⟩
  go_wp2_with fail
  refine(HC.o w1 hr1).mono ?_
  rintro e w2 ⟨rfl,hr,hm2⟩
  have hm:=hm1.trans hm2
  have hN:w2.heap[w.heap.size]? =some (aq {}):=hm.aC (aj _ _) (by omega)
  obtain⟨m0,m1,m2,m3,m4,m5,m6,m7⟩:=ai hN
  have fr0:=au hN
  have hq0:w.heap.size<w2.heap.size:=lt_of_block hN
  have hq1:¬w.heap.size=w2.heap.size:=by omega
  have hq2:¬w2.heap.size=w.heap.size:=by omega
  have HRR:=I hr
  have HMM:=I hm
  clear hr hm hr1 hm1 hm2 HT HC
  simp only[aZ]
  go_wp21
  go_wp21
  go_wp21
  exact aK (N:=w.heap.size) rfl rfl (aI hN t) (.inl ⟨t,k,hE.o,rfl,HRR.o.tok (by omega) (by omega) _ _ _ _ _ _ _ _,Mv.tok (((Mv.refl b w).alloc _).trans HMM.o) (U _) _ _ _ _ _ _ _ _⟩)
 have hq92:(p==92)=false:=by simpa using hp92
 have hq46:(p==46)=false:=by simpa using hp46
 have hq91:(p==91)=false:=by simpa using hp91
 have hq94:(p==94)=false:=by simpa using hp94
 have hq36:(p==36)=false:=by simpa using hp36
 have hq42:(p==42)=false:=by simpa using hp42
 have hq43:(p==43)=false:=by simpa using hp43
 have hq63:(p==63)=false:=by simpa using hp63
 by_cases hd3:d=3
 ·subst hd3
  have hE:Hid (aQ 3 l i=.ok (aM p,i+1)):=by show _=_;rw[hE0.o];unfold j9;simp[hp92,hp46,hp91,hp94,hp36,hp42,hp43,hp63]
  clear hE0 hp92 hp46 hp91 hp94 hp36 hp42 hp43 hp63
  go_enter func84,ntmps84
  go_wp2_with fail
  simp only[aq]at HT
  refine HT.o.mono ?_
  rintro e w1 ⟨rfl,hr1,hm1⟩
  obtain⟨c0,c1,c2,f1⟩:=hr1.cells
  go_wp2_with fail
  refine(dM p w1).mono ?_
  rintro e w2 ⟨rfl,hb2⟩
  have hr:=hr1.ar hb2
  have hm:=hm1.trans (Mv.ae hb2)
  have hN:w2.heap[w.heap.size]? =some (aq {}):=hm.aC (aj _ _) (by omega)
  obtain⟨m0,m1,m2,m3,m4,m5,m6,m7⟩:=ai hN
  have fr0:=au hN
  have hq0:w.heap.size<w2.heap.size:=lt_of_block hN
  have hq1:¬w.heap.size=w2.heap.size:=by omega
  have hq2:¬w2.heap.size=w.heap.size:=by omega
  have HRR:=I hr
  have HMM:=I hm
  clear hr hm hr1 hm1 hb2 HT c0 c1 c2 f1
  simp only[aZ,aM]
  go_wp21
  go_wp21
  go_wp21
  exact aK (N:=w.heap.size) rfl rfl (aI hN (aM p)) (.inl ⟨(aM p),(i+1),hE.o,rfl,HRR.o.tok (by omega) (by omega) _ _ _ _ _ _ _ _,Mv.tok (((Mv.refl b w).alloc _).trans HMM.o) (U _) _ _ _ _ _ _ _ _⟩)
 ·have HR:Hid (aQ d l i=dG d l p (i+1)):=by show _=_;rw[hE0.o];unfold j9;simp[hp92,hp46,hp91,hp94,hp36,hp42,hp43,hp63,hd3]
  have hqd:(d==3)=false:=by simpa using hd3
  clear hE0 hd3 hp92 hp46 hp91 hp94 hp36 hp42 hp43 hp63
  go_enter func84,ntmps84
  go_wp2_with fail
  simp only[aq]at HT
  refine HT.o.mono ?_
  rintro e w1 ⟨rfl,hr1,hm1⟩
  obtain⟨c0,c1,c2,f1⟩:=hr1.cells
  go_wp2_with fail
  refine(gp p w1 hr1).mono ?_
  rintro e w3 (⟨t,k,hR,rfl,hr,hm9⟩|⟨z,hR,rfl,hm9⟩)
  ·have hE:=I (HR.o.trans hR)
   have hm:=hm1.trans hm9
   have hN:w3.heap[w.heap.size]? =some (aq {}):=hm.aC (aj _ _) (by omega)
   obtain⟨m0,m1,m2,m3,m4,m5,m6,m7⟩:=ai hN
   have fr0:=au hN
   have hq0:w.heap.size<w3.heap.size:=lt_of_block hN
   have hq1:¬w.heap.size=w3.heap.size:=by omega
   have hq2:¬w3.heap.size=w.heap.size:=by omega
   have HRR:=I hr
   have HMM:=I hm
   clear hr hm hm9 hR HR hr1 hm1 HT c0 c1 c2 f1
   simp only[aZ]
   go_wp21
   go_wp21
   exact aK (N:=w.heap.size) rfl rfl (aI hN t) (.inl ⟨t,k,hE.o,rfl,HRR.o.tok (by omega) (by omega) _ _ _ _ _ _ _ _,Mv.tok (((Mv.refl b w).alloc _).trans HMM.o) (U _) _ _ _ _ _ _ _ _⟩)
  ·have hE:=I (HR.o.trans hR)
   have hm:=hm1.trans hm9
   have HMM:=I hm
   clear hm hm9 hR HR hr1 hm1 HT c0 c1 c2 f1
   simp only[bK]
   go_wp2
   exact⟨rfl,.inr ⟨z,hE.o,rfl,((Mv.refl b w).alloc _).trans HMM.o⟩⟩
theorem eB(X:World)(N o:Nat)(v:Value):(X.setCell ⟨N,o,none⟩ v).heap[N]? =(X.heap[N]?).map fun| .cells c e f=>.cells (c.setIfInBounds o v) e f|o=>o:=by
 simp only[World.setCell,Array.getElem?_modify,if_true]
 cases X.heap[N]? with
 |none=>rfl
 |some o=>cases o<;>rfl
theorem lz{X:World}{a:Addr}{u:Value}{j:Nat}{o:Obj}(h:X.heap[j]? =some o)(hne:j≠a.block):(X.setCell a u).heap[j]? =some o:=by rw[Below.heap_setCell _ _ _ _ hne];exact h
theorem oV{X:World}{n j:Nat}{o:Obj}(h:X.heap[j]? =some o)(hne:j≠n)(v0 v1 v2 v3 v4 v5 v6 v7:Value):
  ((((((((X.setCell ⟨n,0,none⟩ v0).setCell ⟨n,1,none⟩ v1).setCell ⟨n,2,none⟩ v2).setCell ⟨n,3,none⟩ v3).setCell ⟨n,4,none⟩ v4).setCell ⟨n,5,none⟩ v5).setCell ⟨n,6,none⟩ v6).setCell ⟨n,7,none⟩ v7).heap[j]? =some o:=
 lz (lz (lz (lz (lz (lz (lz (lz h hne) hne) hne) hne) hne) hne) hne) hne
theorem iC(p q r:Addr)(w:World):
  CallsD prog 83 #[.pointer (some p),.pointer (some q),.pointer (some r)] .returning w fun e u' w'=>e=.returned (.tuple #[])/\u'=.returning/\w'=w:=by
 have hnn:∀w,(binOp .neq 20 .nilIface .nilIface).run prog w=.ok (.bool false) w:=fun w=>by kernel_rfl
 refine callsD_of_wpS func83 rfl fun c₀ cs hu=>?_
 apply wpS_seq
 apply wpS_region
 simp[wpOpsS,go_sem,recoverD,hu,ntmps83,Exit.thenS]
 apply wpS_seq
 apply wpS_region
 simp[wpOpsS,go_sem,hnn,Exit.thenS]
 refine wpS_cond (t:=false) (by simp[Act.eval,Array.replicate]) ?_
 simp only[Bool.false_eq_true,if_false]
 refine wpS_of_wp (wp_skip ?_)
 cases c₀
 simp_all [bodyPostS,results,results83]
theorem ix(n m k:Nat)(z:Int)(w:World)(h1:n<m)(h2:m<k){t:Tok}{a e:Int}(ht:w.heap[n]? =some (aq t))(hm:w.heap[m]? =some (.cells #[.int .i64 a] 3 (0,0)))(hk:w.heap[k]? =some (.cells #[.int .i64 e] 29 (0,0))):
  CallsD prog 83 #[.pointer (some ⟨n,0,none⟩),.pointer (some ⟨m,0,none⟩),.pointer (some ⟨k,0,none⟩)] (.panicking [{ v:=.iface 29 (.int .i64 z),recovered:=false }]) w fun e u' w'=>e=.returned (.tuple #[])/\u'=.panicking [{ v:=.iface 29 (.int .i64 z),recovered:=true }]/\w'.heap[n]? =some (aq {})/\w'.heap[m]? =some (.cells #[.int .i64 0] 3 (0,0))/\w'.heap[k]? =some (.cells #[.int .i64 z] 29 (0,0))/\Below n w w':=by
 have hta:∀w,(Instr.typeAssert (.iface 29 (.int .i64 z)) 20 29 false).run prog w=.ok (.int .i64 z) w:=fun w=>by kernel_rfl
 have hnn:∀x w,(binOp .neq 20 (.iface 29 x) .nilIface).run prog w=.ok (.bool true) w:=fun x w=>by rfl
 refine callsD_of_wpS func83 rfl fun c₀ cs hu=>?_
 apply wpS_seq
 apply wpS_region
 simp[wpOpsS,go_sem,recoverD,hu,ntmps83,Exit.thenS]
 apply wpS_seq
 apply wpS_region
 simp[wpOpsS,go_sem,hnn,Exit.thenS]
 refine wpS_cond (t:=true) (by simp[Act.eval,Array.replicate]) ?_
 simp only[if_true]
 refine wpS_of_wp ?_
 obtain⟨m0,m1,m2,m3,m4,m5,m6,m7⟩:=ai ht
 have fr0:=au ht
 have cm:=cell_of_one hm
 have fm:=free_of_one hm
 have ck:=cell_of_one hk
 have fk:=free_of_one hk
 have q1:¬n=m:=by omega
 have q2:¬m=n:=by omega
 have q3:¬n=k:=by omega
 have q4:¬k=n:=by omega
 have q5:¬m=k:=by omega
 have q6:¬k=m:=by omega
 have ne_nm:∀(X:World) u,(X.setCell ⟨m,0,none⟩ u).heap[n]? =X.heap[n]? :=fun X u=>Below.heap_setCell _ _ _ _ q1
 have ne_nk:∀(X:World) u,(X.setCell ⟨k,0,none⟩ u).heap[n]? =X.heap[n]? :=fun X u=>Below.heap_setCell _ _ _ _ q3
 have ne_mn:∀(X:World) o u,(X.setCell ⟨n,o,none⟩ u).heap[m]? =X.heap[m]? :=fun X o u=>Below.heap_setCell _ _ _ _ q2
 have ne_mk:∀(X:World) u,(X.setCell ⟨k,0,none⟩ u).heap[m]? =X.heap[m]? :=fun X u=>Below.heap_setCell _ _ _ _ q5
 have ne_kn:∀(X:World) o u,(X.setCell ⟨n,o,none⟩ u).heap[k]? =X.heap[k]? :=fun X o u=>Below.heap_setCell _ _ _ _ q4
 have ne_km:∀(X:World) u,(X.setCell ⟨m,0,none⟩ u).heap[k]? =X.heap[k]? :=fun X u=>Below.heap_setCell _ _ _ _ q6
 have dr:∀(X:World),X.drew.heap=X.heap:=fun X=>rfl
 unfold aq at ht
 go_region
 all_goals
  refine⟨rfl,_,rfl,.tuple #[],by simp[results,results83],rfl,rfl,?_,?_,?_,?_⟩
  ·simp only[dr,ne_nm,ne_nk,eB,ht,Option.map_some,aq]
   simp
  ·simp only[dr,ne_mn,ne_mk,eB,hm,Option.map_some]
   simp
  ·simp only[dr,ne_kn,ne_km,eB,hk,Option.map_some]
   simp
  ·refine Below.drew ?_
   repeat refine Below.setCell ?_ (by first|exact U _|exact Nat.le_of_lt h1|exact Nat.le_of_lt (Nat.lt_trans h1 h2)) _
   exact J _ _
structure JV(w:World)(x:Addr)(c:Nat)(l:List Int):Prop where
 reads:bU w x l
 cap:l.length<=c
 small:l.length<=300
 dL:∀p∈l,0<=p/\p<=1114111
theorem JV.below{w w':World}{x:Addr}{c:Nat}{l:List Int}(h:JV w x c l)(hb:Below w.heap.size w w'):JV w' x c l:=
 ⟨fun j hj=>by rw[hb.cell (World.block_lt_of_cell? _ _ (h.reads j hj))];exact h.reads j hj,h.cap,h.small,h.dL⟩
def Hs(d:Int)(l:List Int)(i:Nat)(w:World)(e:Ending)(w':World):Prop:=
 (∃t k,aQ d l i=.ok (t,k)/\e=.returned (.tuple #[aZ t,.int .i64 (k:Nat),.int .i64 0])/\k<=l.length/\Below w.heap.size w w')\/
 (∃z,aQ d l i=.error z/\e=.returned (.tuple #[aZ {},.int .i64 0,.int .i64 z])/\Below w.heap.size w w')
theorem fV(X:World):X.drew.heap=X.heap:=rfl
theorem gx{tmps:Array Value}{W:World}{N:Nat}{t:Tok}{k:Int}{R:Ending->World->Prop}(h6:tmps[6]? =some (.pointer (some ⟨N,0,none⟩)))(h7:tmps[7]? =some (.pointer (some ⟨N+1,0,none⟩)))(h8:tmps[8]? =some (.pointer (some ⟨N+1+1,0,none⟩)))
  (q0:W.heap[N]? =some (aq t)) (q1:W.heap[N+1]? =some (.cells #[.int .i64 k] 3 (0,0))) (q2:W.heap[N+1+1]? =some (.cells #[.int .i64 0] 29 (0,0))) (hF:R (.returned (.tuple #[aZ t,.int .i64 k,.int .i64 0])) W):
  bodyPostD prog Tryz.f75 R Exit.ret { tmps:=tmps,defers:=[{ target:=Target.fn (Fn.func 83) #[.pointer (some ⟨N,0,none⟩),.pointer (some ⟨N+1,0,none⟩),.pointer (some ⟨N+1+1,0,none⟩)],args:=#[] }] } W:=by
 obtain⟨m0,m1,m2,m3,m4,m5,m6,m7⟩:=ai q0
 have c1:=cell_of_one q1
 have c2:=cell_of_one q2
 refine leaves_cons (f:=83) (args:=#[.pointer (some ⟨N,0,none⟩),.pointer (some ⟨N+1,0,none⟩),.pointer (some ⟨N+1+1,0,none⟩)]) (by simp) (by simp[go_sem]) ?_
 refine(iC _ _ _ _).mono ?_
 rintro e u' w2 ⟨rfl,rfl,rfl⟩
 simp only[aZ]at hF
 simp[Leaves,settle,results,results75,go_sem,h6,h7,h8,m0,m1,m2,m3,m4,m5,m6,m7,c1,c2]
 exact hF
theorem qQ(d:Int)(x:Addr)(c:Nat)(l:List Int)(i:Nat)(w:World)(h:JV w x c l)(hi:i<l.length):
  Calls prog 75 #[.int .i64 d,.slice (some x) l.length c,.int .i64 i] w fun e w'=>Hs d l i w e w':=by
 have hmf:∀(fn:Fn) (first cap:Array Value) (w:World),(Instr.makeFunc fn first cap).run prog w=.ok (.func fn first cap) w:=fun _ _ _ _=>rfl
 have hxb:x.block<w.heap.size:=by
  have:=World.block_lt_of_cell? _ _ (h.reads i hi)
  rw[aS]at this
  exact this
 have hb0:Below w.heap.size w ((((w.alloc (aq {})).alloc (.cells #[.int .i64 0] 3)).alloc (.cells #[.int .i64 0] 29)).alloc (.cells #[.slice (some x) l.length c,.int .i64 i,.int .i64 d] 121)):=((((J _ w).alloc (U _) _).alloc (by simp) _).alloc (by simp;omega) _).alloc (by simp;omega) _
 have hRB:RB ((((w.alloc (aq {})).alloc (.cells #[.int .i64 0] 3)).alloc (.cells #[.int .i64 0] 29)).alloc (.cells #[.slice (some x) l.length c,.int .i64 i,.int .i64 d] 121)) (w.heap.size+3) x c l i d:=
  ⟨bp _ _ (by simp),(h.below hb0).reads,by omega,h.cap,h.small,Nat.le_of_lt hi,h.dL,by have:=hb0.size;omega⟩
 have HT:=I (AG _ hRB hi)
 simp only[aq]at HT
 have HB0:=I hb0
 clear h hb0 hRB
 obtain⟨n,hn⟩:∃n,n=l.length:=⟨_,rfl⟩
 have HN:=I hn
 rw[<- hn]at HT HB0 |-
 clear hn
 go_enter_defers func75,ntmps75
 go_wp2_with fail
 refine HT.o.mono ?_
 rintro e w1 (⟨t,k,hR,rfl,hr,hm⟩|⟨z,hR,rfl,hm⟩)
 ·have g0:w1.heap[w.heap.size]? =some (aq {}):=hm.aC (ba (ba (ba (aj _ _)))) (by omega)
  have g1:w1.heap[w.heap.size+1]? =some (.cells #[.int .i64 0] 3 (0,0)):=hm.aC (ba (ba (bp _ _ (by simp)))) (by omega)
  have g2:w1.heap[w.heap.size+2]? =some (.cells #[.int .i64 0] 29 (0,0)):=hm.aC (ba (bp _ _ (by simp))) (by omega)
  have hbw:Below w.heap.size w w1:=HB0.o.trans ((hm.below (by simp)).mono (by omega))
  have hkl:=hr.at'
  obtain⟨d0,d1,d2,e1⟩:=hr.cells
  obtain⟨m0,m1,m2,m3,m4,m5,m6,m7⟩:=ai g0
  have fr0:=au g0
  have cc1:=cell_of_one g1
  have cc2:=cell_of_one g2
  have ff1:=free_of_one g1
  have ff2:=free_of_one g2
  have HBW:=I hbw
  have HR:=I hR
  have HG1:=I g1
  have HG2:=I g2
  clear hm HT hr hbw hR
  simp only[aZ]
  go_wp2
  go_region
  go_wp2
  refine gx (N:=w.heap.size) (t:=t) (k:=(k:Int)) rfl rfl rfl ?_ ?_ ?_ ?_
  ·rw[fV];exact lz (lz (aI (aI g0 t) t) (by show w.heap.size≠w.heap.size+1;omega)) (by show w.heap.size≠w.heap.size+1+1;omega)
  ·rw[fV];exact lz (one_setCell (oV (oV HG1.o (by omega) _ _ _ _ _ _ _ _) (by omega) _ _ _ _ _ _ _ _)) (by show w.heap.size+1≠w.heap.size+1+1;omega)
  ·rw[fV];exact one_setCell (lz (oV (oV HG2.o (by omega) _ _ _ _ _ _ _ _) (by omega) _ _ _ _ _ _ _ _) (by show w.heap.size+1+1≠w.heap.size+1;omega))
  ·refine .inl ⟨t,k,HR.o,rfl,hkl,?_⟩
   refine Below.drew ?_
   repeat refine Below.setCell ?_ (by first|exact U _|exact Nat.le_succ _|exact Nat.le_add_right _ 2) _
   exact HBW.o
 ·have g0:w1.heap[w.heap.size]? =some (aq {}):=hm.aC (ba (ba (ba (aj _ _)))) (by omega)
  have g1:w1.heap[w.heap.size+1]? =some (.cells #[.int .i64 0] 3 (0,0)):=hm.aC (ba (ba (bp _ _ (by simp)))) (by omega)
  have g2:w1.heap[w.heap.size+2]? =some (.cells #[.int .i64 0] 29 (0,0)):=hm.aC (ba (bp _ _ (by simp))) (by omega)
  have hbw:Below w.heap.size w w1:=HB0.o.trans ((hm.below (by simp)).mono (by omega))
  simp only[bK]
  clear hm HT
  go_wp2
  refine leaves_cons (f:=83) (args:=#[.pointer (some ⟨w.heap.size,0,none⟩),.pointer (some ⟨w.heap.size+1,0,none⟩),.pointer (some ⟨w.heap.size+1+1,0,none⟩)]) (by simp) (by simp[go_sem]) ?_
  refine(ix w.heap.size (w.heap.size+1) (w.heap.size+1+1) z w1 (by omega) (by omega) g0 g1 g2).mono ?_
  rintro e u' w2 ⟨rfl,rfl,k0,k1,k2,hb⟩
  obtain⟨m0,m1,m2,m3,m4,m5,m6,m7⟩:=ai k0
  have c1:=cell_of_one k1
  have c2:=cell_of_one k2
  have hF:Hs d l i w (.returned (.tuple #[aZ {},.int .i64 0,.int .i64 z])) w2:=.inr ⟨z,hR,rfl,hbw.trans hb⟩
  simp only[aZ]at hF
  simp[Leaves,settle,results,results75,go_sem,m0,m1,m2,m3,m4,m5,m6,m7,c1,c2]
  exact hF
end Go.Proofs.YtklbbbldalmnbaaGreatDoor.TK
