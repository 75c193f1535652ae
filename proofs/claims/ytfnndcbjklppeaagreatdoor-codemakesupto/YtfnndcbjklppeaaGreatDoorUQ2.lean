import Derived.Test.YtfnndcbjklppeaaGreatDoorUM2
import Derived.Test.YtfnndcbjklppeaaGreatDoorUN2
import Derived.Test.YtfnndcbjklppeaaGreatDoorUE2
set_option maxHeartbeats 4000000
set_option maxRecDepth 100000
set_option linter.unusedVariables false
open Go.Proofs.Tryz
namespace Go.Proofs.YtfnndcbjklppeaaGreatDoor
open Go.RowKit
theorem allOf_any{k:Int}{f:FV}(hf:fvOf k=some f)(o:OpV)(w:World):Calls prog 36 #[fvV f,opV o] w fun e w'=>e=.returned (.bool (formB f o))∧Below w.heap.size w w':=by
 unfold fvOf at hf
 split at hf
 ·have hm:f∈fvL:=List.mem_of_getElem? hf
  unfold fvL at hm
  simp only[List.mem_cons,List.not_mem_nil,or_false]at hm
  rcases hm with rfl|rfl|rfl|rfl|rfl|rfl|rfl|rfl|rfl|rfl|rfl|rfl|rfl|rfl|rfl
  ·exact allOf_0 o w
  ·exact allOf_1 o w
  ·exact allOf_2 o w
  ·exact allOf_3 o w
  ·exact allOf_4 o w
  ·exact allOf_5 o w
  ·exact allOf_6 o w
  ·exact allOf_7 o w
  ·exact allOf_8 o w
  ·exact allOf_9 o w
  ·exact allOf_9 o w
  ·exact allOf_10 o w
  ·exact allOf_6 o w
  ·exact allOf_11 o w
  ·exact allOf_11 o w
 ·cases hf
def rangeB(f:FV)(n:Nat)(g c:Int)(o:OpV):Bool:=
 hasB f.to n g c o.to&&(hasB f.other n g c o.other&&(decide (0≤o.least)&&(decide (o.least≤1000)&&(!f.kind||(decide (3≤o.kind)&&decide (o.kind≤8))))))
theorem inRange_any(f:FV)(oa:Option Addr)(ol oc:Nat)(g c:Int)(o:OpV)(w:World):Calls prog 38 #[fvV f,prV oa ol oc g c,opV o] w fun e w'=>e=.returned (.bool (rangeB f ol g c o))∧Below w.heap.size w w':=by
 have hbl:Below w.heap.size w (((w.alloc (fvO f)).alloc (prO oa ol oc g c)).alloc (opO o)):=((allocB _ _).alloc (by simp) _).alloc (by simp;omega) _
 obtain⟨w1,hw1⟩:=named (((w.alloc (fvO f)).alloc (prO oa ol oc g c)).alloc (opO o))
 have hx1:w1.heap[w.heap.size]? =some (fvO f):=by rw[hw1];exact at_old (at_old (at_new _ _))
 have hx2:w1.heap[w.heap.size+1]? =some (prO oa ol oc g c):=by rw[hw1];exact at_old (at_new' _ _ (by simp))
 have hx3:w1.heap[w.heap.size+1+1]? =some (opO o):=by rw[hw1];exact at_new' _ _ (by simp)
 rw[← hw1]at hbl
 have HB:=hide hbl
 have HX1:=hide hx1
 have HX2:=hide hx2
 have HX3:=hide hx3
 have H1:=hide (has_role f.to oa ol oc g c o.to w1)
 have H2:=hide (fun W=>has_role f.other oa ol oc g c o.other W)
 have HE:Hid (rangeB f ol g c o=(hasB f.to ol g c o.to&&(hasB f.other ol g c o.other&&(decide (0≤o.least)&&(decide (o.least≤1000)&&(!f.kind||(decide (3≤o.kind)&&decide (o.kind≤8)))))))):=rfl
 obtain⟨R,hR⟩:=named (rangeB f ol g c o)
 obtain⟨b1,hb1⟩:=named (hasB f.to ol g c o.to)
 obtain⟨b2,hb2⟩:=named (hasB f.other ol g c o.other)
 rw[← hR]at HE ⊢
 rw[← hb1]at HE H1
 rw[← hb2]at HE H2
 simp only[fvO,prO,opO]at hw1
 obtain⟨fto,foth,fset,fkind,fleast,ffold,fback⟩:=f
 obtain⟨dn,sa,sl,sc,to,other,kind,least,fold,back⟩:=o
 simp only at HE H1 H2 hw1
 clear hbl hx1 hx2 hx3 hb1 hb2 hR
 have c1:w1.cell? ⟨w.heap.size,0,none⟩=some (.int .i64 fto):=by simp[World.cell?,HX1.out]
 have c2:w1.cell? ⟨w.heap.size+1,0,none⟩=some (.slice oa ol oc):=by simp[World.cell?,HX2.out]
 have c3:w1.cell? ⟨w.heap.size+1,1,none⟩=some (.int .i64 g):=by simp[World.cell?,HX2.out]
 have c4:w1.cell? ⟨w.heap.size+1,2,none⟩=some (.int .i64 c):=by simp[World.cell?,HX2.out]
 have c5:w1.cell? ⟨w.heap.size+1+1,2,none⟩=some (.int .i64 to):=by simp[World.cell?,HX3.out]
 go_enter func38,ntmps38
 go_upto_region 1 with fail
 rw[← hw1]
 clear hw1
 go_wp2_with fail
 refine H1.out.mono ?_
 rintro e w2 ⟨rfl,hb2⟩
 have HB2:=hide (HB.out.andT hb2)
 have HY1:=hide ((hb2.block _ (lt_of_block HX1.out)).trans HX1.out)
 have HY2:=hide ((hb2.block _ (lt_of_block HX2.out)).trans HX2.out)
 have HY3:=hide ((hb2.block _ (lt_of_block HX3.out)).trans HX3.out)
 clear hb2 H1 HX1 HX2 HX3 HB c1 c2 c3 c4 c5
 cases b1 with
 |false=>
  have HF:Hid (R=false):=by show _=_;rw[HE.out];rfl
  clear HE H2
  go_wp2
  go_ret
  exact⟨by rw[HF.out];rfl,HB2.out⟩
 |true=>
  have c1:w2.cell? ⟨w.heap.size,1,none⟩=some (.int .i64 foth):=by simp[World.cell?,HY1.out]
  have c6:w2.cell? ⟨w.heap.size,3,none⟩=some (.bool fkind):=by simp[World.cell?,HY1.out]
  have c2:w2.cell? ⟨w.heap.size+1,0,none⟩=some (.slice oa ol oc):=by simp[World.cell?,HY2.out]
  have c3:w2.cell? ⟨w.heap.size+1,1,none⟩=some (.int .i64 g):=by simp[World.cell?,HY2.out]
  have c4:w2.cell? ⟨w.heap.size+1,2,none⟩=some (.int .i64 c):=by simp[World.cell?,HY2.out]
  have c5:w2.cell? ⟨w.heap.size+1+1,3,none⟩=some (.int .i64 other):=by simp[World.cell?,HY3.out]
  have c7:w2.cell? ⟨w.heap.size+1+1,4,none⟩=some (.int .i64 kind):=by simp[World.cell?,HY3.out]
  have c8:w2.cell? ⟨w.heap.size+1+1,5,none⟩=some (.int .i64 least):=by simp[World.cell?,HY3.out]
  go_wp2_with fail
  refine(H2.out w2).mono ?_
  rintro e w3 ⟨rfl,hb3⟩
  have HB3:=hide (HB2.out.andT hb3)
  have HZ1:=hide ((hb3.block _ (lt_of_block HY1.out)).trans HY1.out)
  have HZ2:=hide ((hb3.block _ (lt_of_block HY2.out)).trans HY2.out)
  have HZ3:=hide ((hb3.block _ (lt_of_block HY3.out)).trans HY3.out)
  clear hb3 H2 HY1 HY2 HY3 HB2 c1 c2 c3 c4 c5 c6 c7 c8
  cases b2 with
  |false=>
   have HF:Hid (R=false):=by show _=_;rw[HE.out];rfl
   clear HE
   go_wp2
   go_ret
   exact⟨by rw[HF.out];rfl,HB3.out⟩
  |true=>
   have c1:w3.cell? ⟨w.heap.size,1,none⟩=some (.int .i64 foth):=by simp[World.cell?,HZ1.out]
   have c6:w3.cell? ⟨w.heap.size,3,none⟩=some (.bool fkind):=by simp[World.cell?,HZ1.out]
   have c2:w3.cell? ⟨w.heap.size+1,0,none⟩=some (.slice oa ol oc):=by simp[World.cell?,HZ2.out]
   have c3:w3.cell? ⟨w.heap.size+1,1,none⟩=some (.int .i64 g):=by simp[World.cell?,HZ2.out]
   have c4:w3.cell? ⟨w.heap.size+1,2,none⟩=some (.int .i64 c):=by simp[World.cell?,HZ2.out]
   have c5:w3.cell? ⟨w.heap.size+1+1,3,none⟩=some (.int .i64 other):=by simp[World.cell?,HZ3.out]
   have c7:w3.cell? ⟨w.heap.size+1+1,4,none⟩=some (.int .i64 kind):=by simp[World.cell?,HZ3.out]
   have c8:w3.cell? ⟨w.heap.size+1+1,5,none⟩=some (.int .i64 least):=by simp[World.cell?,HZ3.out]
   clear HZ1 HZ2 HZ3 c1 c2 c3 c4 c5
   by_cases h0:0≤least
   ·by_cases h1:least≤1000
    ·cases fkind with
     |false=>
      have HF:Hid (R=true):=by show _=_;rw[HE.out];simp[h0,h1]
      clear HE
      go_wp2
      go_ret
      exact⟨by rw[HF.out];rfl,HB3.out⟩
     |true=>
      by_cases h3:3≤kind
      ·have HF:Hid (R=decide (kind≤8)):=by show _=_;rw[HE.out];simp[h0,h1,h3]
       clear HE
       go_wp2
       go_ret
       exact⟨by rw[HF.out];rfl,HB3.out⟩
      ·have HF:Hid (R=false):=by show _=_;rw[HE.out];simp[h0,h1,h3]
       clear HE
       go_wp2
       go_ret
       exact⟨by rw[HF.out];rfl,HB3.out⟩
    ·have HF:Hid (R=false):=by show _=_;rw[HE.out];simp[h0,h1]
     clear HE
     go_wp2
     go_ret
     exact⟨by rw[HF.out];rfl,HB3.out⟩
   ·have HF:Hid (R=false):=by show _=_;rw[HE.out];simp[h0]
    clear HE
    go_wp2
    go_ret
    exact⟨by rw[HF.out];rfl,HB3.out⟩
abbrev OpL:=List (OpV×RL)
def OpsC(w:World)(oa:Option Addr)(ol oc:Nat)(L:OpL):Prop:=
 (oa=none∧ol=0∧oc=0∧L=[])∨∃x,oa=some x∧ol=L.length∧(L.length≤oc∧oc≤9223372036854775807)∧∀j (hj:j<L.length),OCells w (x.add (j*8)) L[j].1∧Reads w (.slice L[j].1.sa L[j].1.sl L[j].1.sc) L[j].2
theorem OpsC.below{w w':World}{oa:Option Addr}{ol oc:Nat}{L:OpL}(h:OpsC w oa ol oc L)(hb:Below w.heap.size w w'):OpsC w' oa ol oc L:=by
 rcases h with h|⟨x,h1,h2,hm,h3⟩
 ·exact .inl h
 ·exact .inr ⟨x,h1,h2,hm,fun j hj=>⟨(h3 j hj).1.below hb,(h3 j hj).2.below hb⟩⟩
theorem OpsC.len{w:World}{oa:Option Addr}{ol oc:Nat}{L:OpL}(h:OpsC w oa ol oc L):ol=L.length:=by
 rcases h with⟨_,h1,_,rfl⟩|⟨x,h1,h2,_,h3⟩
 ·exact h1
 ·exact h2
def opE(n:Nat)(g c:Int)(x:OpV×RL):Int:=
 match fvOf x.1.dn with
 |none=>7
 |some f=>if formB f x.1=false then 1 else if checkE x.2≠0 then checkE x.2 else if rangeB f n g c x.1 then 0 else 3
def opsE(n:Nat)(g c:Int):OpL→Int
 |[]=>0
 |x::r=>if opE n g c x≠0 then opE n g c x else opsE n g c r
theorem opsE_all{n:Nat}{g c:Int}:∀{L:OpL},(∀i (hi:i<L.length),opE n g c L[i]=0)→opsE n g c L=0
 |[],_=>rfl
 |x::r,h=>by
  have h0:opE n g c x=0:=h 0 (by simp)
  unfold opsE
  rw[if_neg (by simpa using h0)]
  exact opsE_all fun i hi=>by have:=h (i+1) (by simp;omega);simpa using this
theorem opsE_at{n:Nat}{g c:Int}:∀{L:OpL} {j:Nat} (hj:j<L.length),(∀i (hi:i<L.length),i<j→opE n g c L[i]=0)→opE n g c L[j]≠0→opsE n g c L=opE n g c L[j]
 |x::r,0,hj,h,hn=>by
  unfold opsE
  rw[if_pos (by simpa using hn)]
  rfl
 |x::r,j+1,hj,h,hn=>by
  have h0:opE n g c x=0:=h 0 (by simp) (by omega)
  unfold opsE
  rw[if_neg (by simpa using h0)]
  have:=opsE_at (L:=r) (j:=j) (by simp at hj;omega) (fun i hi hij=>by have:=h (i+1) (by simp;omega) (by omega);simpa using this) (by simpa using hn)
  rw[this]
  rfl
theorem opE_none{n:Nat}{g c:Int}{x:OpV×RL}(h:fvOf x.1.dn=none):opE n g c x=7:=by unfold opE;rw[h]
theorem opE_form{n:Nat}{g c:Int}{x:OpV×RL}{f:FV}(h:fvOf x.1.dn=some f)(hf:formB f x.1=false):opE n g c x=1:=by unfold opE;rw[h];simp[hf]
theorem opE_set{n:Nat}{g c:Int}{x:OpV×RL}{f:FV}(h:fvOf x.1.dn=some f)(hf:formB f x.1=true)(hs:checkE x.2≠0):opE n g c x=checkE x.2:=by unfold opE;rw[h];simp[hf,hs]
theorem opE_range{n:Nat}{g c:Int}{x:OpV×RL}{f:FV}(h:fvOf x.1.dn=some f)(hf:formB f x.1=true)(hs:checkE x.2=0):opE n g c x=if rangeB f n g c x.1 then 0 else 3:=by unfold opE;rw[h];simp[hf,hs]
theorem fv_cells{w:World}{k:Nat}{f:FV}(h:w.heap[k]? =some (fvO f)):w.cell? ⟨k,0,none⟩=some (.int .i64 f.to)∧w.cell? ⟨k,1,none⟩=some (.int .i64 f.other)∧w.cell? ⟨k,2,none⟩=some (.bool f.set)∧w.cell? ⟨k,3,none⟩=some (.bool f.kind)∧w.cell? ⟨k,4,none⟩=some (.bool f.least)∧w.cell? ⟨k,5,none⟩=some (.bool f.fold)∧w.cell? ⟨k,6,none⟩=some (.bool f.back):=by
 refine⟨?_,?_,?_,?_,?_,?_,?_⟩<;>simp[World.cell?,h]
theorem pr_cells{w:World}{k:Nat}{oa:Option Addr}{ol oc:Nat}{g c:Int}(h:w.heap[k]? =some (prO oa ol oc g c)):w.cell? ⟨k,0,none⟩=some (.slice oa ol oc)∧w.cell? ⟨k,1,none⟩=some (.int .i64 g)∧w.cell? ⟨k,2,none⟩=some (.int .i64 c):=by
 refine⟨?_,?_,?_⟩<;>simp[World.cell?,h]
theorem checkOps_any(oa:Option Addr)(ol oc:Nat)(g c:Int)(L:OpL)(w:World)(h:OpsC w oa ol oc L):Calls prog 13 #[prV oa ol oc g c] w fun e w'=>e=.returned (.int .i64 (opsE ol g c L))∧Below w.heap.size w w':=by
 have hb1:Below w.heap.size w (w.alloc (prO oa ol oc g c)):=allocB _ _
 have HF:=hide (fieldsByDo_raw (w.alloc (prO oa ol oc g c)))
 obtain⟨w1,hw1⟩:=named (w.alloc (prO oa ol oc g c))
 have hx1:w1.heap[w.heap.size]? =some (prO oa ol oc g c):=by rw[hw1];exact at_new _ _
 have hsz:w1.heap.size=w.heap.size+1:=by rw[hw1];simp
 rw[← hw1]at hb1 HF
 simp only[prO]at hw1
 obtain⟨w2,hw2⟩:=named (w1.alloc (.map (fvE 0 fvL).toArray 15))
 rw[← hw2]at HF
 have hb2:Below w1.heap.size w1 w2:=by rw[hw2];exact allocB _ _
 have hm2:w2.heap[w1.heap.size]? =some (.map (fvE 0 fvL).toArray 15):=by rw[hw2];exact at_new _ _
 have hx2:w2.heap[w.heap.size]? =some (prO oa ol oc g c):=(hb2.block _ (lt_of_block hx1)).trans hx1
 have HO2:=hide ((h.below hb1).below hb2)
 have HB2:=hide (hb1.andT hb2)
 have HL:=hide h.len
 have HM2:=hide hm2
 have HX2:=hide hx2
 rw[hsz]at HM2 HF
 obtain⟨R,hR⟩:=named (opsE ol g c L)
 have HRa:Hid ((∀i (hi:i<L.length),opE ol g c L[i]=0)→R=0):=fun hh=>by rw[hR];exact opsE_all hh
 have HRn:Hid (∀j (hj:j<L.length),(∀i (hi:i<L.length),i<j→opE ol g c L[i]=0)→opE ol g c L[j]≠0→R=opE ol g c L[j]):=fun j hj h1 h2=>by rw[hR];exact opsE_at hj h1 h2
 rw[← hR]
 obtain⟨p0,p1,p2⟩:=pr_cells hx1
 clear h hb1 hx1 hsz hw2 hb2 hm2 hx2 hR
 go_enter func13,ntmps13
 go_upto_region 1 with fail
 rw[← hw1]
 clear hw1
 go_wp2_with fail
 refine HF.out.mono ?_
 rintro e w' ⟨rfl,hw'⟩
 have hw2':=hw'.symm
 subst hw2'
 clear p0 p1 p2 HF
 obtain⟨p0,p1,p2⟩:=pr_cells HX2.out
 go_wp2
 go_loopw [13] (fun v wr=>∃(j:Nat),j≤L.length∧v=.int .i64 j∧(∀i (hi:i<L.length),i<j→opE ol g c L[i]=0)∧Below w2.heap.size w2 wr) (fun v _=>L.length - (intOf v).toNat)
 case atStart=>exact⟨0,Nat.zero_le _,rfl,fun i hi h0=>by omega,belR _ _⟩
 case round=>
  obtain⟨j,hj,rfl,hA,hb⟩:=hrel
  obtain⟨w5,hw5⟩:=named wr
  subst hw5
  have HA:=hide hA
  have HB5:=hide hb
  clear hA hb p0 p1 p2
  by_cases hlt:j<L.length
  ·have e2 :(j:Int)<(ol:Int):=by have:=HL.out;omega
   have e4:(0:Int)≤(j:Int):=by omega
   rcases HO2.out.below HB5.out with⟨_,_,_,h0⟩|⟨x,hx,hkk,hmx,hcl⟩
   ·exact absurd hlt (by rw[h0];simp)
   ·obtain ⟨o,S,hoS⟩:∃o S,L[j]=(o,S):=⟨_,_,rfl⟩
    have hc:=hcl j hlt
    rw[hoS]at hc
    obtain⟨⟨d0,d1,d2,d3,d4,d5,d6,d7⟩,hrd⟩:=hc
    have HRj:Hid (opE ol g c (o,S)≠0→R=opE ol g c (o,S)):=by have:=HRn.out j hlt HA.out;rw[hoS]at this;exact this
    have HAj:Hid (opE ol g c (o,S)=0→∀i (hi:i<L.length),i<j+1→opE ol g c L[i]=0):=fun h0 i hi hij=>by
     by_cases hh:i=j
     ·subst hh;rw[hoS];exact h0
     ·exact HA.out i hi (by omega)
    -- the box of the operation
    have hB6:Below w5.heap.size w5 (w5.alloc (opO o)):=allocB _ _
    obtain⟨w6,hw6⟩:=named (w5.alloc (opO o))
    have hbx:w6.heap[w5.heap.size]? =some (opO o):=by rw[hw6];exact at_new _ _
    rw[← hw6]at hB6
    have HX6:=hide hbx
    have HB6:=hide (HB5.out.andT hB6)
    have HRd:=hide (hrd.below hB6)
    have HM6:=hide ((HB6.out.block _ (lt_of_block HM2.out)).trans HM2.out)
    obtain⟨b0,b1,b2,b3,b4,b5,b6,b7⟩:=op_cells hbx
    have hlook:=look_run w6 (w.heap.size+1) o.dn HM6.out
    simp only[opO]at hw6
    have hjw:IntKind.i64.wrap ((j:Int)+1)=(j:Int)+1:=by rw[IntKind.wrap_i64];omega
    rw[hx]
    clear hcl hx hB6 hbx hrd hkk
    go_upto_region 5 with fail
    rw[← hw6]
    clear hw6 d0 d1 d2 d3 d4 d5 d6 d7
    cases hq:fvOf o.dn with
    |none=>
     have HE:Hid (R=7):=by
      have e7:opE ol g c (o,S)=7:=opE_none hq
      have:=HRj.out (by rw[e7];omega)
      rw[e7]at this;exact this
     rw[hq]at hlook
     simp only[Option.getD,Option.isSome,fvZ]at hlook
     clear hq
     have HBe:Hid (Below w.heap.size w (w6.alloc (fvO fvZ))):=HB2.out.trans ((HB6.out.alloc HB6.out.size _).mono HB2.out.size)
     go_wp2
     go_ret
     exact⟨by rw[HE.out];rfl,HBe.out⟩
    |some f=>
     rw[hq]at hlook
     simp only[Option.getD,Option.isSome]at hlook
     have hB7:Below w6.heap.size w6 (w6.alloc (fvO f)):=allocB _ _
     have HC1:=hide (allOf_any hq o (w6.alloc (fvO f)))
     obtain⟨w7,hw7⟩:=named (w6.alloc (fvO f))
     have hy7:w7.heap[w6.heap.size]? =some (fvO f):=by rw[hw7];exact at_new _ _
     rw[← hw7]at hB7 HC1
     have HY7:=hide hy7
     have HX7:=hide ((hB7.block _ (lt_of_block HX6.out)).trans HX6.out)
     have HB7:=hide (HB6.out.andT hB7)
     have HRd7:=hide (HRd.out.below hB7)
     obtain⟨a0,a1,a2,a3,a4,a5,a6,a7⟩:=op_cells HX7.out
     obtain⟨f0,f1,f2,f3,f4,f5,f6⟩:=fv_cells hy7
     have HQ:=hide hq
     obtain⟨fb,hfb⟩:=named (formB f o)
     have HFB:=hide hfb
     rw[← hfb]at HC1
     simp only[fvO]at hw7
     clear hq hB7 hy7 hfb HX6 HRd HM6
     go_upto_region 8 with fail
     rw[← hw7]
     clear hw7 hlook b0 b1 b2 b3 b4 b5 b6 b7
     go_wp2_with fail
     refine HC1.out.mono ?_
     rintro e w8 ⟨rfl,hb8⟩
     have HB8:=hide (HB7.out.andT hb8)
     have HX8:=hide ((hb8.block _ (lt_of_block HX7.out)).trans HX7.out)
     have HY8:=hide ((hb8.block _ (lt_of_block HY7.out)).trans HY7.out)
     have HRd8:=hide (HRd7.out.below hb8)
     clear hb8 HC1 HX7 HY7 HRd7 HB7 a0 a1 a2 a3 a4 a5 a6 a7 f0 f1 f2 f3 f4 f5 f6
     cases fb with
     |false=>
      have HE:Hid (R=1):=by
       have e7:opE ol g c (o,S)=1:=opE_form HQ.out HFB.out.symm
       have:=HRj.out (by rw[e7];omega)
       rw[e7]at this;exact this
      have HBe:Hid (Below w.heap.size w w8):=HB2.out.andT HB8.out
      go_wp2
      go_ret
      exact⟨by rw[HE.out];rfl,HBe.out⟩
     |true=>
      obtain⟨a0,a1,a2,a3,a4,a5,a6,a7⟩:=op_cells HX8.out
      have HC2:=hide (check_any _ S w8 HRd8.out)
      obtain⟨z,hz⟩:=named (checkE S)
      rw[← hz]at HC2
      have HZ:=hide hz
      clear hz
      go_wp2_with fail
      refine HC2.out.mono ?_
      rintro e w9 ⟨rfl,hb9⟩
      have HB9:=hide (HB8.out.andT hb9)
      have HX9:=hide ((hb9.block _ (lt_of_block HX8.out)).trans HX8.out)
      have HY9:=hide ((hb9.block _ (lt_of_block HY8.out)).trans HY8.out)
      clear hb9 HC2 HX8 HY8 HRd8 HB8 a0 a1 a2 a3 a4 a5 a6 a7
      have HBe:Hid (Below w.heap.size w w9):=HB2.out.andT HB9.out
      by_cases hz0:z=0
      ·subst hz0
       obtain⟨a0,a1,a2,a3,a4,a5,a6,a7⟩:=op_cells HX9.out
       obtain⟨f0,f1,f2,f3,f4,f5,f6⟩:=fv_cells HY9.out
       obtain⟨p0,p1,p2⟩:=pr_cells ((HB9.out.block _ (lt_of_block HX2.out)).trans HX2.out)
       have HC3:=hide (inRange_any f oa ol oc g c o w9)
       obtain⟨rb,hrb⟩:=named (rangeB f ol g c o)
       rw[← hrb]at HC3
       have HEr:Hid (opE ol g c (o,S)=if rb then 0 else 3):=by show _=_;rw[opE_range HQ.out HFB.out.symm HZ.out.symm,hrb]
       clear hrb
       go_wp2_with fail
       refine HC3.out.mono ?_
       rintro e w10 ⟨rfl,hb10⟩
       have HB10:=hide (HB9.out.andT hb10)
       have HBf:Hid (Below w.heap.size w w10):=HB2.out.andT HB10.out
       clear hb10 HC3 a0 a1 a2 a3 a4 a5 a6 a7 f0 f1 f2 f3 f4 f5 f6 p0 p1 p2
       cases rb with
       |false=>
        have HE:Hid (R=3):=by
         have e7:opE ol g c (o,S)=3:=HEr.out
         have:=HRj.out (by rw[e7];omega)
         rw[e7]at this;exact this
        go_wp2
        go_ret
        exact⟨by rw[HE.out];rfl,HBf.out⟩
       |true=>
        have HN:=hide (HAj.out HEr.out)
        go_wp2
        go_roundw
        case rel=>exact⟨j+1,by omega,by go_num,HN.out,HB10.out⟩
        case measure=>simp[intOf];omega
      ·have HE:Hid (R=z):=by
        have e7:opE ol g c (o,S)=z:=by rw[opE_set HQ.out HFB.out.symm (by show checkE S≠0;rw[← HZ.out];exact hz0)];exact HZ.out.symm
        have:=HRj.out (by rw[e7];exact hz0)
        rw[e7]at this;exact this
       have bz:(z==0)=false:=by simpa using hz0
       have bz2:(z !=0)=true:=by simpa using hz0
       clear hz0
       go_wp2
       go_ret
       exact⟨by rw[HE.out];rfl,HBe.out⟩
  ·have e2:¬(j:Int)<(ol:Int):=by have:=HL.out;omega
   have HE:Hid (R=0):=HRa.out (fun i hi=>HA.out i hi (by omega))
   have HBe:Hid (Below w.heap.size w w5):=HB2.out.andT HB5.out
   go_wp2
   go_ret
   exact⟨by rw[HE.out];rfl,HBe.out⟩
def endD(d:Int):Bool:=decide (d=2)||decide (d=14)||decide (d=15)
def endB(L:OpL):Bool:=match L[L.length - 1]? with
 |none=>false
 |some x=>endD x.1.dn
theorem ends_any(oa:Option Addr)(ol oc:Nat)(L:OpL)(w:World)(h:OpsC w oa ol oc L):Calls prog 14 #[.slice oa ol oc] w fun e w'=>e=.returned (.bool (endB L))∧Below w.heap.size w w':=by
 rcases h with⟨rfl,rfl,rfl,rfl⟩|⟨x,rfl,h2,hm,h3⟩
 ·have hE:Hid (endB []=false):=rfl
  go_enter func14,ntmps14
  go_wp2
  go_ret
  exact⟨by rw[hE.out];rfl,belR _ _⟩
 ·by_cases h0:L.length=0
  ·have hE:Hid (endB L=false):=by show _=_;unfold endB;rw[List.getElem?_eq_none (by omega)]
   obtain rfl:ol=0:=by omega
   obtain⟨E,hEE⟩:=named (endB L)
   rw[← hEE]at hE ⊢
   clear h2 h3 hm h0 hEE
   go_enter func14,ntmps14
   go_wp2
   go_ret
   exact⟨by rw[hE.out];rfl,belR _ _⟩
  ·have hj:L.length - 1<L.length:=by omega
   have hE:Hid (endB L=endD L[L.length - 1].1.dn):=by show _=_;unfold endB;rw[List.getElem?_eq_getElem hj]
   have c0:=(h3 (L.length - 1) hj).1.c0
   obtain⟨d,hd⟩:=named (L[L.length - 1].1.dn)
   obtain⟨k,hk⟩:=named (L.length - 1)
   rw[← hd]at c0 hE
   rw[← hk]at c0
   obtain rfl:ol=k+1:=by omega
   have hkm:k+1≤9223372036854775807:=by omega
   obtain⟨E,hEE⟩:=named (endB L)
   rw[← hEE]at hE ⊢
   clear h2 h3 hm hd hk h0 hj hEE
   have bk:(((k+1:Nat):Int)==0)=false:=by simp;omega
   by_cases d2:d=2
   ·have hF:Hid (E=true):=by show _=_;rw[hE.out,d2];rfl
    subst d2
    go_enter func14,ntmps14
    go_wp2
    go_ret
    exact⟨by rw[hF.out];rfl,belR _ _⟩
   ·have b2:(d==2)=false:=by simpa using d2
    by_cases d14:d=14
    ·have hF:Hid (E=true):=by show _=_;rw[hE.out,d14];rfl
     subst d14
     clear d2 b2
     go_enter func14,ntmps14
     go_wp2
     go_ret
     exact⟨by rw[hF.out];rfl,belR _ _⟩
    ·have b14:(d==14)=false:=by simpa using d14
     by_cases d15:d=15
     ·have hF:Hid (E=true):=by show _=_;rw[hE.out,d15];rfl
      subst d15
      clear d2 b2 d14 b14
      go_enter func14,ntmps14
      go_wp2
      go_ret
      exact⟨by rw[hF.out];rfl,belR _ _⟩
     ·have b15:(d==15)=false:=by simpa using d15
      have hF:Hid (E=false):=by show _=_;rw[hE.out];simp[endD,d2,d14,d15]
      clear d2 d14 d15
      go_enter func14,ntmps14
      go_wp2
      go_ret
      exact⟨by rw[hF.out];rfl,belR _ _⟩
def progE(n:Nat)(g c:Int)(L:OpL):Int:=
 if 12000<(n:Int)∨2000<c∨20<g then 2 else if g<0∨c<0 then 3 else if opsE n g c L≠0 then opsE n g c L else if endB L then 0 else 4
theorem codeCheck_any(oa:Option Addr)(ol oc:Nat)(g c:Int)(L:OpL)(w:World)(h:OpsC w oa ol oc L):Calls prog 6 #[prV oa ol oc g c] w fun e w'=>e=.returned (.int .i64 (progE ol g c L))∧Below w.heap.size w w':=by
 have hb1:Below w.heap.size w (w.alloc (prO oa ol oc g c)):=allocB _ _
 have HC1:=hide (checkOps_any oa ol oc g c L (w.alloc (prO oa ol oc g c)) (h.below hb1))
 have HC2:=hide (fun W (hW:Below w.heap.size w W)=>ends_any oa ol oc L W (h.below hW))
 obtain⟨w1,hw1⟩:=named (w.alloc (prO oa ol oc g c))
 have hx1:w1.heap[w.heap.size]? =some (prO oa ol oc g c):=by rw[hw1];exact at_new _ _
 rw[← hw1]at hb1 HC1
 simp only[prO]at hw1
 have HX1:=hide hx1
 have HB1:=hide hb1
 obtain⟨z,hz⟩:=named (opsE ol g c L)
 obtain⟨eb,heb⟩:=named (endB L)
 have HE:Hid (progE ol g c L=if 12000<(ol:Int)∨2000<c∨20<g then 2 else if g<0∨c<0 then 3 else if z≠0 then z else if eb then 0 else 4):=by show _=_;unfold progE;rw[hz,heb]
 obtain⟨R,hR⟩:=named (progE ol g c L)
 rw[← hR]at HE ⊢
 rw[← hz]at HC1
 rw[← heb]at HC2
 clear h hb1 hx1 hz heb hR
 obtain⟨p0,p1,p2⟩:=pr_cells HX1.out
 by_cases h1:12000<(ol:Int)
 ·have HF:Hid (R=2):=by show _=_;rw[HE.out];simp[h1]
  clear HE
  go_enter func6,ntmps6
  go_upto_region 1 with fail
  rw[← hw1]
  clear hw1
  go_wp2
  go_ret
  exact⟨by rw[HF.out];rfl,HB1.out⟩
 ·by_cases h2:2000<c
  ·have HF:Hid (R=2):=by show _=_;rw[HE.out];simp[h2]
   clear HE
   go_enter func6,ntmps6
   go_upto_region 1 with fail
   rw[← hw1]
   clear hw1
   go_wp2
   go_ret
   exact⟨by rw[HF.out];rfl,HB1.out⟩
  ·by_cases h3:20<g
   ·have HF:Hid (R=2):=by show _=_;rw[HE.out];simp[h3]
    clear HE
    go_enter func6,ntmps6
    go_upto_region 1 with fail
    rw[← hw1]
    clear hw1
    go_wp2
    go_ret
    exact⟨by rw[HF.out];rfl,HB1.out⟩
   ·by_cases h4:g<0
    ·have HF:Hid (R=3):=by show _=_;rw[HE.out];simp[h1,h2,h3,h4]
     clear HE
     go_enter func6,ntmps6
     go_upto_region 1 with fail
     rw[← hw1]
     clear hw1
     go_wp2
     go_ret
     exact⟨by rw[HF.out];rfl,HB1.out⟩
    ·by_cases h5:c<0
     ·have HF:Hid (R=3):=by show _=_;rw[HE.out];simp[h1,h2,h3,h5]
      clear HE
      go_enter func6,ntmps6
      go_upto_region 1 with fail
      rw[← hw1]
      clear hw1
      go_wp2
      go_ret
      exact⟨by rw[HF.out];rfl,HB1.out⟩
     ·have HF:Hid (R=if z≠0 then z else if eb then 0 else 4):=by show _=_;rw[HE.out];simp[h1,h2,h3,h4,h5]
      clear HE
      go_enter func6,ntmps6
      go_upto_region 1 with fail
      rw[← hw1]
      clear hw1
      go_wp2_with fail
      refine HC1.out.mono ?_
      rintro e w2 ⟨rfl,hb2⟩
      have HB2:=hide (HB1.out.andT hb2)
      have HX2:=hide ((hb2.block _ (lt_of_block HX1.out)).trans HX1.out)
      clear hb2 HC1 HB1 HX1 p0 p1 p2
      by_cases hz0:z=0
      ·subst hz0
       obtain⟨p0,p1,p2⟩:=pr_cells HX2.out
       have HC3:=hide (HC2.out w2 HB2.out)
       clear HC2
       go_wp2_with fail
       refine HC3.out.mono ?_
       rintro e w3 ⟨rfl,hb3⟩
       have HB3:=hide (HB2.out.andT hb3)
       clear hb3 HC3 HB2 HX2 p0 p1 p2
       cases eb with
       |true=>
        have HG:Hid (R=0):=HF.out
        go_wp2
        go_ret
        exact⟨by rw[HG.out];rfl,HB3.out⟩
       |false=>
        have HG:Hid (R=4):=HF.out
        go_wp2
        go_ret
        exact⟨by rw[HG.out];rfl,HB3.out⟩
      ·have HG:Hid (R=z):=by show _=_;rw[HF.out,if_pos hz0]
       have bz:(z==0)=false:=by simpa using hz0
       have bz2:(z !=0)=true:=by simpa using hz0
       clear hz0
       go_wp2
       go_ret
       exact⟨by rw[HG.out];rfl,HB2.out⟩
end Go.Proofs.YtfnndcbjklppeaaGreatDoor
