import Derived.Test.YtfnndcbjklppeaaGreatDoorUC2
import Derived.Test.YtfnndcbjklppeaaGreatDoorUE2
import Derived.Deep.QuietTactic
import Derived.BigQuiet
import Derived.Deep.Cut
set_option linter.unusedVariables false
set_option maxHeartbeats 8000000
set_option maxRecDepth 100000
open Go.Proofs.Tryz
namespace Go.Proofs.YtfnndcbjklppeaaGreatDoor
open Go.RowKit
mutual
def szT:Tr→Nat
 | .mk _ _ _ _ _ _ _ kids=>1+szL kids
def szL:List Tr→Nat
 |[]=>0
 |t::ts=>szT t+szL ts
end
theorem szL_drop{ts:List Tr}{j:Nat}(hj:j<ts.length):szL (ts.drop j)=szT ts[j]+szL (ts.drop (j+1)):=by
 rw[List.drop_eq_getElem_cons hj,szL]
theorem szT_kids(t:Tr):szT t=1+szL t.kids:=by cases t;rfl
theorem cntL_sz{step:Tr→Nat→Nat}(hs:∀t c,c<1001→step t c<1001→step t c=c+szT t)(hle:∀t c,c≤1000→step t c≤1001):∀(ts:List Tr) (c:Nat),c<1001→cntL step ts c<1001→cntL step ts c=c+szL ts:=by
 intro ts
 induction ts with
 |nil=>intro c _ _;rfl
 |cons t ts ih=>
  intro c hc h
  unfold cntL at h ⊢
  rw[if_pos hc]at h ⊢
  have h1:step t c<1001:=by
   by_cases hh:step t c<1001
   ·exact hh
   ·rw[cntL_stop hh]at h;exact absurd h hh
  rw[ih _ h1 h,hs t c hc h1,szL];omega
theorem cntT_sz:∀(f:Nat) (t:Tr) (c:Nat),c<1001→cntT f t c<1001→cntT f t c=c+szT t:=by
 intro f
 induction f with
 |zero=>intro t c _ h;exact absurd h (by unfold cntT;omega)
 |succ f ih=>
  intro t c hc h
  unfold cntT at h ⊢
  by_cases h1:c+1<1001
  ·rw[cntL_sz ih (cntT_le f) _ _ h1 h,szT_kids];omega
  ·rw[cntL_stop h1]at h;omega
theorem cntA_sz{t:Tr}(h:cntA t<1001):szT t≤1000:=by
 have:=cntT_sz 201 t 0 (by omega) h
 unfold cntA at h
 omega
abbrev St:Type:=Int×List Int
def nodeS(t:Tr)(s:St):Except Int St:=
 if ¬(1≤t.kind∧t.kind≤18)then .error 7
 else if (kidsB t&&fieldsB t)=false then .error 1
 else if checkE t.set≠0 then .error (checkE t.set)
 else if t.kind=12 then(if repE t=0 then .ok s else .error (repE t))
 else if t.kind=11 then(if t.num=s.1+1 then .ok (s.1+1,s.2)else .error 4)
 else if t.kind=18 then .ok (s.1,s.2++[t.num])
 else .ok s
mutual
def chkT:Tr→St→Except Int St
 | .mk k a b c d e f kids,s=>match nodeS (.mk k a b c d e f kids) s with
  | .ok s'=>chkL kids s'
  | .error z=>.error z
def chkL:List Tr→St→Except Int St
 |[],s=>.ok s
 |t::ts,s=>match chkT t s with
  | .ok s'=>chkL ts s'
  | .error z=>.error z
end
theorem chkT_kids(t:Tr)(s:St):chkT t s=match nodeS t s with| .ok s'=>chkL t.kids s'| .error z=>.error z:=by
 cases t;rfl
theorem chkL_drop{ts:List Tr}{j:Nat}(hj:j<ts.length)(s:St):chkL (ts.drop j) s=match chkT ts[j] s with| .ok s'=>chkL (ts.drop (j+1)) s'| .error z=>.error z:=by
 rw[List.drop_eq_getElem_cons hj];rfl
theorem nodeS_grow{t:Tr}{s s':St}(h:nodeS t s=.ok s'):s.1≤s'.1∧s'.1≤s.1+1∧s'.2.length≤s.2.length+1:=by
 unfold nodeS at h
 split at h
 ·cases h
 ·split at h
  ·cases h
  ·split at h
   ·cases h
   ·split at h
    ·split at h
     ·cases h;omega
     ·cases h
    ·split at h
     ·split at h
      ·cases h;simp;omega
      ·cases h
     ·split at h
      ·cases h;simp<;>omega
      ·cases h;omega
mutual
theorem chkT_grow:∀(t:Tr) (s s':St),chkT t s=.ok s'→s.1≤s'.1∧s'.1≤s.1+szT t∧s'.2.length≤s.2.length+szT t
 | .mk k a b c d e f kids,s,s',h=>by
  rw[chkT_kids]at h
  cases hn:nodeS (.mk k a b c d e f kids) s with
  |error z=>rw[hn]at h;cases h
  |ok s1=>
   rw[hn]at h
   have h1:=nodeS_grow hn
   have h2:=chkL_grow kids s1 s' h
   rw[szT]
   omega
theorem chkL_grow:∀(ts:List Tr) (s s':St),chkL ts s=.ok s'→s.1≤s'.1∧s'.1≤s.1+szL ts∧s'.2.length≤s.2.length+szL ts
 |[],s,s',h=>by cases h;simp[szL]
 |t::ts,s,s',h=>by
  unfold chkL at h
  cases hn:chkT t s with
  |error z=>rw[hn]at h;cases h
  |ok s1=>
   rw[hn]at h
   have h1:=chkT_grow t s s1 hn
   have h2:=chkL_grow ts s1 s' h
   rw[szL]
   omega
end
def CK(B:Nat)(w:World)(cb:Nat)(s:St):Prop:=
 B≤cb∧∃v,w.heap[cb]? =some (.cells #[.int .i64 s.1,v] 155 (0,0))∧w.ownsRow B 3 1 v s.2.length (i64s s.2)∧v.ownBlock≠some cb
def NodeE(B:Nat)(R:Except Int St)(cb:Nat)(w:World)(e:Ending)(w':World):Prop:=
 Below B w w'∧((∃s',R=.ok s'∧e=.returned (.tuple #[])∧CK B w' cb s')∨(∃z,R=.error z∧e=.panicked [{ v:=.iface 26 (.int .i64 z),recovered:=false }]))
theorem own_keep{B e k n:Nat}{w w':World}{v:Value}{xs:List Value}(h:w.ownsRow B e k v n xs)(hb:Below w.heap.size w w'):w'.ownsRow B e k v n xs:=by
 rcases h with⟨h0,h1⟩
 refine⟨h0,?_⟩
 rcases h1 with h1|⟨g,cap,cur,h1,h2,h3,h4⟩
 ·exact .inl h1
 ·exact .inr ⟨g,cap,cur,h1,h2,by rw[hb.block g (lt_of_block h3)];exact h3,h4⟩
theorem CK.keep{B:Nat}{w w':World}{cb:Nat}{s:St}(h:CK B w cb s)(hb:Below w.heap.size w w'):CK B w' cb s:=by
 obtain⟨h1,v,h2,h3,h4⟩:=h
 exact⟨h1,v,by rw[hb.block cb (lt_of_block h2)];exact h2,own_keep h3 hb,h4⟩
theorem node_kind(B:Nat)(n:NV)(t:Tr)(w:World)(cb:Nat)(s:St)(h:NodeC w n t)(hB:B≤w.heap.size)(hck:CK B w cb s)(hbad:¬(1≤t.kind∧t.kind≤18)):Calls prog 101 #[.pointer (some ⟨cb,0,none⟩),nvV n] w fun e w'=>e=.panicked [{ v:=.iface 26 (.int .i64 7),recovered:=false }]∧Below w.heap.size w w':=by
 obtain⟨k0,k1,k2,k3,k4,k5,hr,vs,hk,hkids⟩:=h.open
 have hb:Below w.heap.size w (w.alloc (nvO n)):=allocB _ _
 have HHK:=hide (fun W (hW:Below w.heap.size w W)=>hasItsKids_any n t W (h.keep hW))
 have HHF:=hide (fun W (hW:Below w.heap.size w W)=>hasItsFields_any n t W (h.keep hW))
 have HHR:=hide (fun W (hW:Below w.heap.size w W)=>checkRepeat_any n t W (h.keep hW))
 have HSC:=hide (fun W (hW:Below w.heap.size w W)=>check_any _ t.set W (hr.below hW))
 have HY:=hide (fun k W=>must_yes k W)
 have HM:Hid (∀k W,Calls prog 138 #[.bool false,.int .i64 k] W fun e w'=>e=.panicked [{ v:=.iface 26 (.int .i64 k),recovered:=false }]∧W=w'):=fun k W=>must_no k W
 obtain⟨w1,hw1⟩:=named (w.alloc (nvO n))
 have hbox:w1.heap[w.heap.size]? =some (nvO n):=by rw[hw1];exact at_new _ _
 rw[← hw1]at hb
 have HB:=hide hb
 have HX:=hide hbox
 have HCK:=hide hck
 obtain⟨d0,d1,d2,d3,d4,d5,d6,d7⟩:=nv_cells hbox
 simp only[nvO]at hw1
 rw[k0]at hbad
 clear h hr hk hkids hbox hb k0 k1 k2 k3 k4 k5 HHK HHF HHR HSC HX HCK hck hB
 by_cases g1:1≤n.kind
 ·have g2:decide (n.kind≤18)=false:=decide_eq_false (by omega)
  clear hbad
  go_enter func101,ntmps101
  go_wp2_with fail
  rw[← hw1]
  clear hw1
  refine(HM.out 7 w1).mono ?_
  rintro e w' ⟨rfl,rfl⟩
  go_wp2
  exact⟨rfl,rfl,HB.out⟩
 ·clear hbad
  go_enter func101,ntmps101
  go_wp2_with fail
  rw[← hw1]
  clear hw1
  refine(HM.out 7 w1).mono ?_
  rintro e w' ⟨rfl,rfl⟩
  go_wp2
  exact⟨rfl,rfl,HB.out⟩
theorem node_form(B:Nat)(n:NV)(t:Tr)(w:World)(cb:Nat)(s:St)(h:NodeC w n t)(hB:B≤w.heap.size)(hck:CK B w cb s)(hkd:1≤t.kind∧t.kind≤18)(hbad:(kidsB t&&fieldsB t)=false):Calls prog 101 #[.pointer (some ⟨cb,0,none⟩),nvV n] w fun e w'=>e=.panicked [{ v:=.iface 26 (.int .i64 1),recovered:=false }]∧Below w.heap.size w w':=by
 obtain⟨k0,k1,k2,k3,k4,k5,hr,vs,hk,hkids⟩:=h.open
 have hb:Below w.heap.size w (w.alloc (nvO n)):=allocB _ _
 have HHK:=hide (fun W (hW:Below w.heap.size w W)=>hasItsKids_any n t W (h.keep hW))
 have HHF:=hide (fun W (hW:Below w.heap.size w W)=>hasItsFields_any n t W (h.keep hW))
 have HHR:=hide (fun W (hW:Below w.heap.size w W)=>checkRepeat_any n t W (h.keep hW))
 have HSC:=hide (fun W (hW:Below w.heap.size w W)=>check_any _ t.set W (hr.below hW))
 have HY:=hide (fun k W=>must_yes k W)
 have HM:Hid (∀k W,Calls prog 138 #[.bool false,.int .i64 k] W fun e w'=>e=.panicked [{ v:=.iface 26 (.int .i64 k),recovered:=false }]∧W=w'):=fun k W=>must_no k W
 obtain⟨w1,hw1⟩:=named (w.alloc (nvO n))
 have hbox:w1.heap[w.heap.size]? =some (nvO n):=by rw[hw1];exact at_new _ _
 rw[← hw1]at hb
 have HB:=hide hb
 have HX:=hide hbox
 have HCK:=hide hck
 obtain⟨d0,d1,d2,d3,d4,d5,d6,d7⟩:=nv_cells hbox
 simp only[nvO]at hw1
 rw[k0]at hkd
 obtain⟨g1,g2⟩:=hkd
 obtain⟨b1,hb1⟩:=named (kidsB t)
 obtain⟨b2,hb2⟩:=named (fieldsB t)
 rw[← hb1]at HHK hbad
 rw[← hb2]at HHF hbad
 clear h hr hk hkids hbox hb k0 k1 k2 k3 k4 k5 HHR HSC HCK hck hB hb1 hb2
 cases b1 with
 |false=>
  have HB1:=HB
  have HX1:=HX
  clear HB HX
  go_enter func101,ntmps101
  go_wp2_with fail
  rw[← hw1]
  clear hw1
  refine(HY.out 7 w1).mono ?_
  rintro e w' ⟨rfl,rfl⟩
  go_wp2_with fail
  refine(HHK.out w1 HB1.out).mono ?_
  rintro e w2 ⟨rfl,hb2⟩
  have HB2:=hide (HB1.out.andT hb2)
  have HX2:=hide (show w2.heap[w.heap.size]? =some (nvO n) by rw[hb2.block _ (lt_of_block HX1.out)];exact HX1.out)
  clear hb2 HB1 HX1 d0 d1 d2 d3 d4 d5 d6 d7
  obtain⟨d0,d1,d2,d3,d4,d5,d6,d7⟩:=nv_cells HX2.out
  go_wp2_with fail
  refine(HM.out 1 w2).mono ?_
  rintro e w' ⟨rfl,rfl⟩
  go_wp2
  exact⟨rfl,rfl,HB2.out⟩
 |true=>
  cases b2 with
  |true=>cases hbad
  |false=>
   have HB1:=HB
   have HX1:=HX
   clear HB HX
   go_enter func101,ntmps101
   go_wp2_with fail
   rw[← hw1]
   clear hw1
   refine(HY.out 7 w1).mono ?_
   rintro e w' ⟨rfl,rfl⟩
   go_wp2_with fail
   refine(HHK.out w1 HB1.out).mono ?_
   rintro e w2 ⟨rfl,hb2⟩
   have HB2:=hide (HB1.out.andT hb2)
   have HX2:=hide (show w2.heap[w.heap.size]? =some (nvO n) by rw[hb2.block _ (lt_of_block HX1.out)];exact HX1.out)
   clear hb2 HB1 HX1 d0 d1 d2 d3 d4 d5 d6 d7
   obtain⟨d0,d1,d2,d3,d4,d5,d6,d7⟩:=nv_cells HX2.out
   go_wp2_with fail
   refine(HHF.out w2 HB2.out).mono ?_
   rintro e w3 ⟨rfl,hb3⟩
   have HB3:=hide (HB2.out.andT hb3)
   have HX3:=hide (show w3.heap[w.heap.size]? =some (nvO n) by rw[hb3.block _ (lt_of_block HX2.out)];exact HX2.out)
   clear hb3 HB2 HX2 d0 d1 d2 d3 d4 d5 d6 d7
   obtain⟨d0,d1,d2,d3,d4,d5,d6,d7⟩:=nv_cells HX3.out
   go_wp2_with fail
   refine(HM.out 1 w3).mono ?_
   rintro e w' ⟨rfl,rfl⟩
   go_wp2
   exact⟨rfl,rfl,HB3.out⟩
theorem node_set(B:Nat)(n:NV)(t:Tr)(w:World)(cb:Nat)(s:St)(h:NodeC w n t)(hB:B≤w.heap.size)(hck:CK B w cb s)(hkd:1≤t.kind∧t.kind≤18)(hok:(kidsB t&&fieldsB t)=true)(hbad:checkE t.set≠0):Calls prog 101 #[.pointer (some ⟨cb,0,none⟩),nvV n] w fun e w'=>e=.panicked [{ v:=.iface 26 (.int .i64 (checkE t.set)),recovered:=false }]∧Below w.heap.size w w':=by
 obtain⟨k0,k1,k2,k3,k4,k5,hr,vs,hk,hkids⟩:=h.open
 have hb:Below w.heap.size w (w.alloc (nvO n)):=allocB _ _
 have HHK:=hide (fun W (hW:Below w.heap.size w W)=>hasItsKids_any n t W (h.keep hW))
 have HHF:=hide (fun W (hW:Below w.heap.size w W)=>hasItsFields_any n t W (h.keep hW))
 have HHR:=hide (fun W (hW:Below w.heap.size w W)=>checkRepeat_any n t W (h.keep hW))
 have HSC:=hide (fun W (hW:Below w.heap.size w W)=>check_any _ t.set W (hr.below hW))
 have HY:=hide (fun k W=>must_yes k W)
 have HM:Hid (∀k W,Calls prog 138 #[.bool false,.int .i64 k] W fun e w'=>e=.panicked [{ v:=.iface 26 (.int .i64 k),recovered:=false }]∧W=w'):=fun k W=>must_no k W
 obtain⟨w1,hw1⟩:=named (w.alloc (nvO n))
 have hbox:w1.heap[w.heap.size]? =some (nvO n):=by rw[hw1];exact at_new _ _
 rw[← hw1]at hb
 have HB:=hide hb
 have HX:=hide hbox
 have HCK:=hide hck
 obtain⟨d0,d1,d2,d3,d4,d5,d6,d7⟩:=nv_cells hbox
 simp only[nvO]at hw1
 rw[k0]at hkd
 obtain⟨g1,g2⟩:=hkd
 rw[Bool.and_eq_true]at hok
 rw[hok.1]at HHK
 rw[hok.2]at HHF
 obtain⟨z,hz⟩:=named (checkE t.set)
 rw[← hz]at HSC hbad ⊢
 have hzb:(z==0)=false:=by simpa using hbad
 clear h hr hk hkids hbox hb k0 k1 k2 k3 k4 k5 HHR HCK hck hB hok hz hbad
 have HB1:=HB
 have HX1:=HX
 clear HB HX
 go_enter func101,ntmps101
 go_wp2_with fail
 rw[← hw1]
 clear hw1
 refine(HY.out 7 w1).mono ?_
 rintro e w' ⟨rfl,rfl⟩
 go_wp2_with fail
 refine(HHK.out w1 HB1.out).mono ?_
 rintro e w2 ⟨rfl,hb2⟩
 have HB2:=hide (HB1.out.andT hb2)
 have HX2:=hide (show w2.heap[w.heap.size]? =some (nvO n) by rw[hb2.block _ (lt_of_block HX1.out)];exact HX1.out)
 clear hb2 HB1 HX1 d0 d1 d2 d3 d4 d5 d6 d7
 obtain⟨d0,d1,d2,d3,d4,d5,d6,d7⟩:=nv_cells HX2.out
 go_wp2_with fail
 refine(HHF.out w2 HB2.out).mono ?_
 rintro e w3 ⟨rfl,hb3⟩
 have HB3:=hide (HB2.out.andT hb3)
 have HX3:=hide (show w3.heap[w.heap.size]? =some (nvO n) by rw[hb3.block _ (lt_of_block HX2.out)];exact HX2.out)
 clear hb3 HB2 HX2 d0 d1 d2 d3 d4 d5 d6 d7
 obtain⟨d0,d1,d2,d3,d4,d5,d6,d7⟩:=nv_cells HX3.out
 go_wp2_with fail
 refine(HY.out 1 w3).mono ?_
 rintro e w' ⟨rfl,rfl⟩
 go_wp2_with fail
 refine(HSC.out w3 HB3.out).mono ?_
 rintro e w4 ⟨rfl,hb4⟩
 have HB4:=hide (HB3.out.andT hb4)
 have HX4:=hide (show w4.heap[w.heap.size]? =some (nvO n) by rw[hb4.block _ (lt_of_block HX3.out)];exact HX3.out)
 clear hb4 HB3 HX3 d0 d1 d2 d3 d4 d5 d6 d7
 obtain⟨d0,d1,d2,d3,d4,d5,d6,d7⟩:=nv_cells HX4.out
 go_wp2_with fail
 refine(HM.out z w4).mono ?_
 rintro e w' ⟨rfl,rfl⟩
 go_wp2
 exact⟨rfl,rfl,HB4.out⟩
theorem set_one{w:World}{N:Nat}{cs:Array Value}{e:TypeId}{fr:Nat×Nat}(h:w.heap[N]? =some (.cells cs e fr))(o:Nat)(v:Value):(w.setCell ⟨N,o,none⟩ v).heap[N]? =some (.cells (cs.setIfInBounds o v) e fr):=by
 have hlt:=lt_of_block h
 have h':w.heap[N]=.cells cs e fr:=by simpa[Array.getElem?_eq_getElem hlt]using h
 show(w.heap.modify N _)[N]? =_
 rw[Array.getElem?_eq_getElem (by simpa using hlt),Array.getElem_modify_self,h']
 rfl
theorem own_set{B e k n:Nat}{w:World}{v:Value}{xs:List Value}(h:w.ownsRow B e k v n xs){cb o:Nat}{u:Value}(hne:v.ownBlock≠some cb):(w.setCell ⟨cb,o,none⟩ u).ownsRow B e k v n xs:=by
 rcases h with⟨h0,h1⟩
 refine⟨h0,?_⟩
 rcases h1 with h1|⟨g,cap,cur,h1,h2,h3,h4⟩
 ·exact .inl h1
 ·refine .inr ⟨g,cap,cur,h1,h2,?_,h4⟩
  rw[Below.heap_setCell _ _ _ _ (fun e=>hne (by rw[h1];simp only at e;rw[← e];rfl))]
  exact h3
theorem CK.groups{B:Nat}{w:World}{cb:Nat}{s:St}(h:CK B w cb s)(g:Int):CK B (w.setCell ⟨cb,0,none⟩ (.int .i64 g)) cb (g,s.2):=by
 obtain⟨h1,v,h2,h3,h4⟩:=h
 exact⟨h1,v,by rw[set_one h2];rfl,own_set h3 h4,h4⟩
theorem CK.cells{B:Nat}{w:World}{cb:Nat}{s:St}(h:CK B w cb s):∃v,w.cell? ⟨cb,0,none⟩=some (.int .i64 s.1)∧w.cell? ⟨cb,1,none⟩=some v∧w.ownsRow B 3 1 v s.2.length (i64s s.2)∧v.ownBlock≠some cb∧(∀o,w.frozen? ⟨cb,o,none⟩=false)∧cb<w.heap.size:=by
 obtain⟨h1,v,h2,h3,h4⟩:=h
 exact⟨v,by simp[World.cell?,h2],by simp[World.cell?,h2],h3,h4,fun o=>by simp[World.frozen?,h2],lt_of_block h2⟩
theorem must_yes'(k:Int)(w:World):Calls prog 138 #[.bool true,.int .i64 k] w fun e w'=>e=.returned (.tuple #[])∧w'=w:=(must_yes k w).mono (by rintro e w' ⟨rfl,rfl⟩;exact⟨rfl,rfl⟩)
theorem node_rep(w0:World)(n:NV)(set:RL)(ks:List Tr)(vs:Nat→NV)(h0:NodeC w0 n (.mk n.kind n.num n.least n.most n.way n.fold set ks))(hk:KidsC w0 n.ka n.kl n.kc ks.length vs)(w:World)(hw0:Below w0.heap.size w0 w)(cb:Nat)(s:St)(hck:CK w0.heap.size w cb s)(hkd:1≤n.kind∧n.kind≤18)(hok:(kidsB (.mk n.kind n.num n.least n.most n.way n.fold set ks)&&fieldsB (.mk n.kind n.num n.least n.most n.way n.fold set ks))=true)(hzs:checkE set=0)(hk12:n.kind=12)(hrep:repE (.mk n.kind n.num n.least n.most n.way n.fold set ks)=0)(hsz:0≤s.1∧s.1+szL ks+1≤1000000∧s.2.length+szL ks+1≤1000000)(ih:∀j (hj:j<ks.length) (W:World) (s:St),Below w0.heap.size w0 W→CK w0.heap.size W cb s→0≤s.1∧s.1+szT ks[j]≤1000000∧s.2.length+szT ks[j]≤1000000→Calls prog 101 #[.pointer (some ⟨cb,0,none⟩),nvV (vs j)] W fun e w'=>NodeE w0.heap.size (chkT ks[j] s) cb W e w'):Calls prog 101 #[.pointer (some ⟨cb,0,none⟩),nvV n] w fun e w'=>NodeE w0.heap.size (chkT (.mk n.kind n.num n.least n.most n.way n.fold set ks) s) cb w e w':=by
 have h:=h0.keep hw0
 have hr:=h.open.2.2.2.2.2.2.1
 obtain⟨t,ht⟩:=named (Tr.mk n.kind n.num n.least n.most n.way n.fold set ks)
 have hset:t.set=set:=by rw[ht];rfl
 rw[← ht]at h hr hok hrep ⊢
 rw[← hset]at hzs
 have hb:Below w.heap.size w (w.alloc (nvO n)):=allocB _ _
 rw[Bool.and_eq_true]at hok
 have HHK:=hide (fun W (hW:Below w.heap.size w W)=>hasItsKids_any n t W (h.keep hW))
 have HHF:=hide (fun W (hW:Below w.heap.size w W)=>hasItsFields_any n t W (h.keep hW))
 have HHR:=hide (fun W (hW:Below w.heap.size w W)=>checkRepeat_any n t W (h.keep hW))
 have HSC:=hide (fun W (hW:Below w.heap.size w W)=>check_any _ t.set W (hr.below hW))
 rw[hok.1]at HHK
 rw[hok.2]at HHF
 rw[hzs]at HSC
 have HY:=hide (fun k W=>must_yes k W)
 have HM:Hid (∀k W,Calls prog 138 #[.bool false,.int .i64 k] W fun e w'=>e=.panicked [{ v:=.iface 26 (.int .i64 k),recovered:=false }]∧W=w'):=fun k W=>must_no k W
 have HKL:Hid (n.kl=ks.length):=hk.len
 have HK:=hide hk
 have HW0:=hide hw0
 obtain⟨w1,hw1⟩:=named (w.alloc (nvO n))
 have hbox:w1.heap[w.heap.size]? =some (nvO n):=by rw[hw1];exact at_new _ _
 rw[← hw1]at hb
 have HB1:=hide hb
 have HX1:=hide hbox
 have HCK:=hide hck
 obtain⟨d0,d1,d2,d3,d4,d5,d6,d7⟩:=nv_cells hbox
 simp only[nvO]at hw1
 obtain⟨g1,g2⟩:=hkd
 have HIH:=hide ih
 have HFin:Hid (chkT t s=chkL ks s):=by
  show _=_
  rw[chkT_kids]
  have hn:nodeS t s=.ok s:=by
   unfold nodeS
   have hkk:t.kind=n.kind:=by rw[ht];rfl
   have hnn:t.num=n.num:=by rw[ht];rfl
   rw[hkk,hnn,if_neg (by omega),if_neg (by rw[hok.1,hok.2];decide),if_neg (by omega)]
   rw[if_pos hk12,if_pos hrep]
  rw[hn,ht];rfl
 have b12:(n.kind==12)=true:=by simpa using hk12
 rw[hrep]at HHR
 simp only[mustE,if_true]at HHR
 clear hk12 hrep
 clear h0 h hr hok hzs hset ht hbox hb hk hw0 hck ih
 go_enter func101,ntmps101
 go_wp2_with fail
 rw[← hw1]
 clear hw1
 refine(HY.out 7 w1).mono ?_
 rintro e w' ⟨rfl,rfl⟩
 go_wp2_with fail
 refine(HHK.out w1 HB1.out).mono ?_
 rintro e w2 ⟨rfl,hb2⟩
 have HB2:=hide (HB1.out.andT hb2)
 have HX2:=hide (show w2.heap[w.heap.size]? =some (nvO n) by rw[hb2.block _ (lt_of_block HX1.out)];exact HX1.out)
 clear hb2 HB1 HX1 d0 d1 d2 d3 d4 d5 d6 d7
 obtain⟨d0,d1,d2,d3,d4,d5,d6,d7⟩:=nv_cells HX2.out
 go_wp2_with fail
 refine(HHF.out w2 HB2.out).mono ?_
 rintro e w3 ⟨rfl,hb3⟩
 have HB3:=hide (HB2.out.andT hb3)
 have HX3:=hide (show w3.heap[w.heap.size]? =some (nvO n) by rw[hb3.block _ (lt_of_block HX2.out)];exact HX2.out)
 clear hb3 HB2 HX2 d0 d1 d2 d3 d4 d5 d6 d7
 obtain⟨d0,d1,d2,d3,d4,d5,d6,d7⟩:=nv_cells HX3.out
 go_wp2_with fail
 refine(HY.out 1 w3).mono ?_
 rintro e w' ⟨rfl,rfl⟩
 go_wp2_with fail
 refine(HSC.out w3 HB3.out).mono ?_
 rintro e w4 ⟨rfl,hb4⟩
 have HB4:=hide (HB3.out.andT hb4)
 have HX4:=hide (show w4.heap[w.heap.size]? =some (nvO n) by rw[hb4.block _ (lt_of_block HX3.out)];exact HX3.out)
 clear hb4 HB3 HX3 d0 d1 d2 d3 d4 d5 d6 d7
 obtain⟨d0,d1,d2,d3,d4,d5,d6,d7⟩:=nv_cells HX4.out
 go_wp2_with fail
 refine(HY.out 0 w4).mono ?_
 rintro e w' ⟨rfl,rfl⟩
 have HC4:=hide (HCK.out.keep HB4.out)
 go_wp2_with fail
 refine(HHR.out w4 HB4.out).mono ?_
 rintro e w5 ⟨rfl,hb5⟩
 have HB5:=hide (HB4.out.andT hb5)
 have HX5:=hide (show w5.heap[w.heap.size]? =some (nvO n) by rw[hb5.block _ (lt_of_block HX4.out)];exact HX4.out)
 have HC5:=hide (HC4.out.keep hb5)
 clear hb5 HB4 HX4 d0 d1 d2 d3 d4 d5 d6 d7
 obtain⟨d0,d1,d2,d3,d4,d5,d6,d7⟩:=nv_cells HX5.out
 have HBw:Hid (Below w0.heap.size w w5):=HB5.out.mono HW0.out.size
 go_wp2
 clear d0 d1 d2 d3 d4 d5 d6 d7
 have hsz2:=hsz
 go_loopw [69] (fun t wr=>∃(j:Nat) (s2:St),j≤ks.length∧t=.int .i64 j∧chkL ks s=chkL (ks.drop j) s2∧CK w0.heap.size wr cb s2∧(0≤s2.1∧s2.1+szL (ks.drop j)≤1000000∧s2.2.length+szL (ks.drop j)≤1000000)∧Below w0.heap.size w wr) (fun t _=>ks.length - (intOf t).toNat)
 case atStart=>exact⟨0,s,Nat.zero_le _,rfl,rfl,HC5.out,by have h:=hsz2;simp only[List.drop_zero];omega,HBw.out⟩
 case round=>
  obtain⟨j,s2,hj,rfl,hE,hck2,hbd,hb⟩:=hrel
  have HE:=hide hE
  have HBr:=hide hb
  have HCr:=hide hck2
  obtain⟨w20,hw20⟩:=named wr
  subst hw20
  clear hb hE hck2
  by_cases hlt:j<ks.length
  ·have e2:(j:Int)<(n.kl:Int):=by have:=HKL.out;omega
   have e4:(0:Int)≤(j:Int):=by omega
   rcases HK.out with⟨_,_,_,h00⟩|⟨x,hx,hkk,hmx,hcl⟩
   ·exact absurd h00 (by omega)
   ·obtain ⟨d0,d1,d2,d3,d4,d5,d6,d7⟩:=(hcl j hlt).below (HW0.out.trans HBr.out)
    have hszj:=szL_drop hlt
    have hB3:Below w20.heap.size w20 (w20.alloc (nvO (vs j))):=allocB _ _
    have HC:=hide (HIH.out j hlt (w20.alloc (nvO (vs j))) s2 (HW0.out.trans (HBr.out.trans (hB3.mono (Nat.le_trans HW0.out.size HBr.out.size)))) (HCr.out.keep hB3) (by omega))
    obtain⟨w21,hw21⟩:=named (w20.alloc (nvO (vs j)))
    have hbx:w21.heap[w20.heap.size]? =some (nvO (vs j)):=by rw[hw21];exact at_new _ _
    rw[← hw21]at HC hB3
    have HB21:=hide (HBr.out.trans (hB3.mono (Nat.le_trans HW0.out.size HBr.out.size)))
    obtain⟨b0,b1,b2,b3,b4,b5,b6,b7⟩:=nv_cells hbx
    simp only[nvO]at hw21
    have hjw:IntKind.i64.wrap ((j:Int)+1)=(j:Int)+1:=by rw[IntKind.wrap_i64];omega
    have HD:=hide (chkL_drop hlt s2)
    have HBD:=hide hbd
    have HSJ:=hide hszj
    rw[hx]
    clear hcl hx hkk hB3 hbx hszj hbd
    go_wp2_with fail
    rw[← hw21]
    clear hw21
    refine HC.out.mono ?_
    rintro e w22 ⟨hb22,⟨s3,hR,rfl,hck3⟩|⟨z,hR,rfl⟩⟩
    ·have HB22:=hide (HB21.out.trans hb22)
     have HC3:=hide hck3
     have hgr:=chkT_grow _ _ _ hR
     have HNx:Hid (chkL ks s=chkL (ks.drop (j+1)) s3):=by show _=_;rw[HE.out,HD.out,hR]
     have HBd3:Hid (0≤s3.1∧s3.1+szL (ks.drop (j+1))≤1000000∧s3.2.length+szL (ks.drop (j+1))≤1000000):=by have:=HBD.out;have:=HSJ.out;show _∧_∧_;omega
     clear hb22 hck3 hgr hR HC HBD
     go_wp2
     go_roundw
     case rel=>exact⟨j+1,s3,by omega,by go_num,HNx.out,HC3.out,HBd3.out,HB22.out⟩
     case measure=>simp[intOf];omega
    ·have HB22:=hide (HB21.out.trans hb22)
     have hF:Hid (chkT t s=.error z):=by show _=_;rw[HFin.out,HE.out,HD.out,hR]
     clear hb22 hR HC
     go_wp2
     exact⟨rfl,HB22.out,.inr ⟨z,hF.out,rfl⟩⟩
  ·have e2:¬(j:Int)<(n.kl:Int):=by have:=HKL.out;omega
   have hF:Hid (chkT t s=.ok s2):=by
    show _=_
    rw[HFin.out,HE.out,List.drop_eq_nil_of_le (by omega)];rfl
   go_wp2
   go_end0
   exact⟨HBr.out,.inl ⟨s2,hF.out,rfl,HCr.out⟩⟩
theorem node_repbad(w0:World)(n:NV)(set:RL)(ks:List Tr)(vs:Nat→NV)(h0:NodeC w0 n (.mk n.kind n.num n.least n.most n.way n.fold set ks))(hk:KidsC w0 n.ka n.kl n.kc ks.length vs)(w:World)(hw0:Below w0.heap.size w0 w)(cb:Nat)(s:St)(hck:CK w0.heap.size w cb s)(hkd:1≤n.kind∧n.kind≤18)(hok:(kidsB (.mk n.kind n.num n.least n.most n.way n.fold set ks)&&fieldsB (.mk n.kind n.num n.least n.most n.way n.fold set ks))=true)(hzs:checkE set=0)(hk12:n.kind=12)(hrep:repE (.mk n.kind n.num n.least n.most n.way n.fold set ks)≠0):Calls prog 101 #[.pointer (some ⟨cb,0,none⟩),nvV n] w fun e w'=>e=.panicked [{ v:=.iface 26 (.int .i64 (repE (.mk n.kind n.num n.least n.most n.way n.fold set ks))),recovered:=false }]∧Below w.heap.size w w':=by
 have h:=h0.keep hw0
 have hr:=h.open.2.2.2.2.2.2.1
 obtain⟨t,ht⟩:=named (Tr.mk n.kind n.num n.least n.most n.way n.fold set ks)
 have hset:t.set=set:=by rw[ht];rfl
 rw[← ht]at h hr hok hrep ⊢
 rw[← hset]at hzs
 have hb:Below w.heap.size w (w.alloc (nvO n)):=allocB _ _
 rw[Bool.and_eq_true]at hok
 have HHK:=hide (fun W (hW:Below w.heap.size w W)=>hasItsKids_any n t W (h.keep hW))
 have HHF:=hide (fun W (hW:Below w.heap.size w W)=>hasItsFields_any n t W (h.keep hW))
 have HHR:=hide (fun W (hW:Below w.heap.size w W)=>checkRepeat_any n t W (h.keep hW))
 have HSC:=hide (fun W (hW:Below w.heap.size w W)=>check_any _ t.set W (hr.below hW))
 rw[hok.1]at HHK
 rw[hok.2]at HHF
 rw[hzs]at HSC
 have HY:=hide (fun k W=>must_yes k W)
 have HM:Hid (∀k W,Calls prog 138 #[.bool false,.int .i64 k] W fun e w'=>e=.panicked [{ v:=.iface 26 (.int .i64 k),recovered:=false }]∧W=w'):=fun k W=>must_no k W
 have HKL:Hid (n.kl=ks.length):=hk.len
 have HK:=hide hk
 have HW0:=hide hw0
 obtain⟨w1,hw1⟩:=named (w.alloc (nvO n))
 have hbox:w1.heap[w.heap.size]? =some (nvO n):=by rw[hw1];exact at_new _ _
 rw[← hw1]at hb
 have HB1:=hide hb
 have HX1:=hide hbox
 have HCK:=hide hck
 obtain⟨d0,d1,d2,d3,d4,d5,d6,d7⟩:=nv_cells hbox
 simp only[nvO]at hw1
 obtain⟨g1,g2⟩:=hkd
 have b12:(n.kind==12)=true:=by simpa using hk12
 obtain⟨z,hz⟩:=named (repE t)
 rw[← hz]at HHR hrep ⊢
 simp only[mustE,gives]at HHR
 rw[if_neg hrep]at HHR
 clear h0 h hr hok hzs hset ht hbox hb hk hw0 hck hk12 hrep hz
 go_enter func101,ntmps101
 go_wp2_with fail
 rw[← hw1]
 clear hw1
 refine(HY.out 7 w1).mono ?_
 rintro e w' ⟨rfl,rfl⟩
 go_wp2_with fail
 refine(HHK.out w1 HB1.out).mono ?_
 rintro e w2 ⟨rfl,hb2⟩
 have HB2:=hide (HB1.out.andT hb2)
 have HX2:=hide (show w2.heap[w.heap.size]? =some (nvO n) by rw[hb2.block _ (lt_of_block HX1.out)];exact HX1.out)
 clear hb2 HB1 HX1 d0 d1 d2 d3 d4 d5 d6 d7
 obtain⟨d0,d1,d2,d3,d4,d5,d6,d7⟩:=nv_cells HX2.out
 go_wp2_with fail
 refine(HHF.out w2 HB2.out).mono ?_
 rintro e w3 ⟨rfl,hb3⟩
 have HB3:=hide (HB2.out.andT hb3)
 have HX3:=hide (show w3.heap[w.heap.size]? =some (nvO n) by rw[hb3.block _ (lt_of_block HX2.out)];exact HX2.out)
 clear hb3 HB2 HX2 d0 d1 d2 d3 d4 d5 d6 d7
 obtain⟨d0,d1,d2,d3,d4,d5,d6,d7⟩:=nv_cells HX3.out
 go_wp2_with fail
 refine(HY.out 1 w3).mono ?_
 rintro e w' ⟨rfl,rfl⟩
 go_wp2_with fail
 refine(HSC.out w3 HB3.out).mono ?_
 rintro e w4 ⟨rfl,hb4⟩
 have HB4:=hide (HB3.out.andT hb4)
 have HX4:=hide (show w4.heap[w.heap.size]? =some (nvO n) by rw[hb4.block _ (lt_of_block HX3.out)];exact HX3.out)
 clear hb4 HB3 HX3 d0 d1 d2 d3 d4 d5 d6 d7
 obtain⟨d0,d1,d2,d3,d4,d5,d6,d7⟩:=nv_cells HX4.out
 go_wp2_with fail
 refine(HY.out 0 w4).mono ?_
 rintro e w' ⟨rfl,rfl⟩
 go_wp2_with fail
 refine(HHR.out w4 HB4.out).mono ?_
 rintro e w5 ⟨rfl,hb5⟩
 have HB5:=hide (HB4.out.andT hb5)
 clear hb5
 go_wp2
 exact⟨rfl,rfl,HB5.out⟩
theorem own_shape{B e:Nat}{w:World}{v:Value}{n k:Nat}{xs:List Value}(h:w.ownsRow B e k v n xs):∃ao cap,v=.slice ao n cap:=by
 rcases h.2 with⟨rfl,rfl⟩|⟨g,cap,cur,rfl,_⟩
 ·exact⟨_,_,rfl⟩
 ·exact⟨_,_,rfl⟩
theorem info_parts{o:Option TypeInfo}{z:Option Value}{s b:Nat}(h:o.map (fun i=>(i.zero,i.size,i.bytes))=some (z,s,b)):∃i,o=some i∧i.zero=z∧i.size=s∧i.bytes=b:=by
 cases o with
 |none=>simp at h
 |some i=>simp at h;exact⟨i,rfl,h.1,h.2.1,h.2.2⟩
theorem info3:(Tryz.prog.info? 3).map (fun i=>(i.zero,i.size,i.bytes))=some (some (.int .i64 0),1,8):=by kernel_rfl
theorem below_drew{B:Nat}{w w':World}(h:Below B w w'):Below B w w'.drew:=⟨h.1,h.2,h.3,h.4,h.5⟩
theorem grown_below{B:Nat}{w wr w1:World}{v:Value}{n:Nat}{xs:List Value}(ho:wr.ownsRow B 3 1 v n xs)(hb:Below B w wr)(hB:B≤wr.heap.size){o:Obj}(hg:(wr.alloc o).drew.grownBy w1 v.ownBlock):Below B w w1:=
 hb.trans (((below_drew ((belR B wr).alloc hB o))).grown hg (by show B≤(wr.alloc o).heap.size;simp;omega) (fun k hk=>(ho.lt k hk).1))
theorem grown_at{wr w1:World}{v:Value}{o:Obj}(hg:(wr.alloc o).drew.grownBy w1 v.ownBlock){k:Nat}(hk:k<wr.heap.size)(hne:v.ownBlock≠some k):w1.heap[k]? =wr.heap[k]? :=by
 rw[hg.block k (by show k<(wr.alloc o).heap.size;simp;omega) (fun e=>hne e.symm)]
 show(wr.alloc o).heap[k]? =_
 rw[Below.heap_alloc _ _ _ hk]
theorem CK.again{B:Nat}{wr w1:World}{cb:Nat}{s:St}{o:Obj}{ro:Option Addr}{rc gg cap:Nat}{num:Int}(hB:B≤cb)(hc:wr.heap[cb]? =some (.cells #[.int .i64 s.1,.slice ro s.2.length rc] 155 (0,0)))(hne:(Value.slice ro s.2.length rc).ownBlock≠some cb)(hg:(wr.alloc o).drew.grownBy w1 (Value.slice ro s.2.length rc).ownBlock)(hown:w1.ownsRow B 3 1 (.slice (some ⟨gg,0,none⟩) (s.2.length+1) cap) (s.2.length+1) (i64s s.2++[.int .i64 num]))(hat:(Value.slice ro s.2.length rc).ownBlock=some gg∨gg=wr.heap.size+1):CK B (w1.setCell ⟨cb,1,none⟩ (.slice (some ⟨gg,0,none⟩) (s.2.length+1) cap)) cb (s.1,s.2++[num]):=by
 have hlt:=lt_of_block hc
 have h1:w1.heap[cb]? =some (.cells #[.int .i64 s.1,.slice ro s.2.length rc] 155 (0,0)):=by rw[grown_at hg hlt hne];exact hc
 have hn2:(Value.slice (some ⟨gg,0,none⟩) (s.2.length+1) cap).ownBlock≠some cb:=by
  rcases hat with e|e
  ·show some gg≠some cb
   rw[← e];exact hne
  ·show some gg≠some cb
   intro e2
   have:=Option.some.inj e2
   omega
 refine⟨hB,_,by rw[set_one h1];rfl,?_,hn2⟩
 have:=own_set (cb:=cb) (o:=1) (u:=.slice (some ⟨gg,0,none⟩) (s.2.length+1) cap) hown hn2
 simpa[i64s]using this
theorem own_row_elem{B e k n:Nat}{w:World}{v:Value}{xs:List Value}(h:w.ownsRow B e k v n xs){g:Nat}(hg:v.ownBlock=some g):∃cur,w.heap[g]? =some (.cells cur e (0,0)):=by
 rcases h.2 with⟨rfl,_⟩|⟨g',cap,cur,rfl,_,hh,_⟩
 ·cases hg
 ·have :g'=g:=Option.some.inj hg
  subst this
  exact⟨_,hh⟩
end Go.Proofs.YtfnndcbjklppeaaGreatDoor
