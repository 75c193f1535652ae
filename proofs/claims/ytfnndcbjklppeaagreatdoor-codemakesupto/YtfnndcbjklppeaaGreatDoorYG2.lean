import Derived.Test.YtfnndcbjklppeaaGreatDoorVO2
import Derived.Test.YtfnndcbjklppeaaGreatDoorXA2
import Derived.Laws.BytesArg
import Derived.Test.YtfnndcbjklppeaaGreatDoorXE2
import Derived.BigQuiet
set_option maxHeartbeats 40000000
set_option maxRecDepth 100000
set_option linter.unusedVariables false
open Go.Proofs.Tryz
namespace Go.Proofs.YtfnndcbjklppeaaGreatDoor
open Go.RowKit Go.PlainAid
theorem m_betw(p a b:Int)(w:World):Calls prog 20 #[.int .i64 p,.int .i64 a,.int .i64 b] w fun e w'=>e=.returned (.bool (decide (a≤p∧p≤b)))∧w'=w:=by
 go_enter func20,ntmps20
 by_cases h1:a≤p
 ·by_cases h2:p≤b
  ·go_wp2
   go_ret
   exact⟨by simp[h1,h2],rfl⟩
  ·go_wp2
   go_ret
   exact⟨by simp[h2],rfl⟩
 ·go_wp2
  go_ret
  exact⟨by simp;omega,rfl⟩
theorem isLetR(p:Int)(w:World):Calls prog 114 #[.int .i64 p] w fun e w'=>e=.returned (.bool (letP p))∧w'=w:=by
 have HB:=hide (m_betw p 65 90 w)
 have HC:=hide (m_betw p 97 122 w)
 obtain⟨z,hz⟩:=named (decide (65≤p∧p≤90))
 obtain⟨y,hy⟩:=named (decide (97≤p∧p≤122))
 have hl:letP p=(y||z):=by unfold letP;rw[hz,hy];simp only[Bool.decide_and]
 rw[hl]
 rw[← hz]at HB
 rw[← hy]at HC
 clear hz hy hl
 cases z with
 |true=>
  go_enter func114,ntmps114
  go_wp2_with fail
  refine HB.out.mono ?_
  rintro e w' ⟨rfl,rfl⟩
  go_wp2
  go_ret
  exact⟨by simp,rfl⟩
 |false=>
  go_enter func114,ntmps114
  go_wp2_with fail
  refine HB.out.mono ?_
  rintro e w' ⟨rfl,hh⟩
  subst hh
  go_wp2_with fail
  refine HC.out.mono ?_
  rintro e w' ⟨rfl,rfl⟩
  go_wp2
  go_ret
  exact⟨by simp,rfl⟩
theorem isDigR(p:Int)(w:World):Calls prog 115 #[.int .i64 p] w fun e w'=>e=.returned (.bool (decide (48≤p∧p≤57)))∧w'=w:=by
 have HB:=hide (m_betw p 48 57 w)
 obtain⟨z,hz⟩:=named (decide (48≤p∧p≤57))
 rw[← hz]at HB ⊢
 clear hz
 go_enter func115,ntmps115
 go_wp2_with fail
 refine HB.out.mono ?_
 rintro e w' ⟨rfl,rfl⟩
 go_wp2
 go_ret
 exact⟨rfl,rfl⟩
def RdS(w:World)(ao:Option Addr)(s:ByteArray):Prop:=∀i,i<s.size→∃x,ao=some x∧w.cell? (x.add i)=some (.int .i64 (bt s i))
theorem RdS.below{w w':World}{ao:Option Addr}{s:ByteArray}(h:RdS w ao s)(hb:Below w.heap.size w w'):RdS w' ao s:=fun i hi=>by
 obtain⟨x,e,hc⟩:=h i hi
 exact⟨x,e,below_cell hb (lt_of_cell hc) hc⟩
theorem pointR(s:ByteArray)(ao:Option Addr)(c k:Nat)(w:World)(h:RdS w ao s)(hk:k≤s.size):∃p,Calls prog 113 #[.slice ao s.size c,.int .i64 k] w (fun e w'=>e=.returned (.int .i64 p)∧w'=w)∧((k<s.size∧p=bt s k)∨(k=s.size∧p= -1)):=by
 by_cases hi:k<s.size
 ·refine ⟨bt s k,?_,.inl ⟨hi,rfl⟩⟩
  obtain⟨x,rfl,hc⟩:=h k hi
  obtain⟨p,hp⟩:=named (bt s k)
  obtain⟨n,hn⟩:=named s.size
  rw[← hp]at hc ⊢
  rw[← hn]at hi ⊢
  clear h hp hn hk
  have e1:(k:Int)<(n:Int):=by omega
  have e0:(0:Int)≤(k:Int):=by omega
  go_enter func113,ntmps113
  go_wp2
  go_ret
  exact⟨rfl,rfl⟩
 ·refine ⟨-1,?_,.inr ⟨by omega,rfl⟩⟩
  obtain⟨n,hn⟩:=named s.size
  rw[← hn]at hi ⊢
  clear h hn hk
  have e1:¬(k:Int)<(n:Int):=by omega
  have e0:(0:Int)≤(k:Int):=by omega
  go_enter func113,ntmps113
  go_wp2
  go_ret
  exact⟨rfl,rfl⟩
theorem conv_one(w:World)(p:Int):(convert 160 9 (.slice (some ⟨w.heap.size,0,none⟩) 1 1)).run prog (w.alloc (.cells #[.int .u8 p] 5))=.ok (.string (strOfNums [p])) (w.alloc (.cells #[.int .u8 p] 5)):=by
 refine run_convert_bytes_arg _ 160 5 underlying160 underlying5 w.heap.size 0 1 1 [p] rfl ?_ 9 underlying9
 intro i hi
 have:i=0:=by omega
 subst this
 simp only[World.cell?,Nat.add_zero]
 rw[at_new]
 rfl
theorem one_size(p:Int):(strOfNums [p]).size=1:=rfl
def strN:Value→Nat| .string b=>b.size|_=>0
def Far(s:ByteArray)(k:Nat):Prop:=k≤20∧k≤s.size∧(∀i,i<k→mayP (bt s i) (decide (i=0))=true)
def FarE(s:ByteArray)(k:Nat):Prop:=Far s k∧(k<20→k<s.size→mayP (bt s k) (decide (k=0))=false)
theorem far_next{s:ByteArray}{k:Nat}(h:Far s k)(h2:k<20)(h3:k<s.size)(h4:mayP (bt s k) (decide (k=0))=true):Far s (k+1):=⟨by omega,by omega,fun i hi=>by
 by_cases hij:i=k
 ·rw[hij];exact h4
 ·exact h.2.2 i (by omega)⟩
theorem far_nm{s:ByteArray}{k:Nat}(h:FarE s k):nmS s=(!decide (k=0)&&decide (k=s.size)):=by
 obtain⟨⟨h1,h2,h3⟩,h4⟩:=h
 by_cases hk:k=s.size
 ·by_cases h0:k=0
  ·rw[nmS_none (by omega)];simp[h0]
  ·rw[nmS_yes (by omega) (by omega) (fun i hi=>h3 i (by omega)),show decide (k=s.size)=true by simpa using hk,show decide (k=0)=false by simpa using h0];rfl
 ·have hlt:k<s.size:=by omega
  rw[show decide (k=s.size)=false by simpa using hk,Bool.and_false]
  by_cases h20:k<20
  ·exact nmS_no hlt (h4 h20 hlt)
  ·exact nmS_long (by omega)
theorem mayP_out(f:Bool):mayP (-1) f=false:=by cases f<;>decide
theorem nameAtR(s:ByteArray)(ao:Option Addr)(c:Nat)(w:World)(h:RdS w ao s):Calls prog 78 #[.slice ao s.size c,.int .i64 0] w fun e w'=>∃k,FarE s k∧∃B:ByteArray,B.size=k∧e=.returned (.tuple #[.string B,.int .i64 (k:Nat)])∧Below w.heap.size w w':=by
 have HR:=hide h
 have HP0:=hide (fun k W hW hk=>pointR s ao c k W hW hk)
 obtain⟨n,hn⟩:=named s.size
 have HN:=hide hn
 rw[← hn]at HP0 ⊢
 clear h hn
 go_enter func78,ntmps78
 go_wp2
 go_loopw [1,6] (fun a u wr=>∃(k:Nat),a=.int .i64 ((k:Nat):Int)∧∃B,u=.string B∧B.size=k∧Far s k∧Below w.heap.size w wr) (fun _ u _=>20 - strN u)
 case atStart=>exact⟨0,rfl,_,rfl,rfl,⟨by omega,by omega,fun i hi=>by omega⟩,belR _ _⟩
 case round=>
  obtain⟨k,rfl,B,rfl,hB,hF,hb⟩:=hrel
  have hk20:=hF.1
  have HF:=hide hF
  have HBl:=hide hb
  have HB:=hide hB
  have hRr:=hide (HR.out.below hb)
  clear hF hb hB
  by_cases hlt:k<20
  ·have e1:((B.size:Nat):Int)<20:=by have:=HB.out;omega
   obtain⟨p,hP,hp⟩:=HP0.out k wr hRr.out (by have:=HF.out.2.1;have:=HN.out;omega)
   have HP:=hide hP
   have HPp:Hid (mayP p (decide (k=0))=true→k<s.size∧p=bt s k):=fun hm=>by
    rcases hp with⟨h1,h2⟩|⟨_,h2⟩
    ·exact⟨by have:=HN.out;omega,h2⟩
    ·rw[h2,mayP_out]at hm;cases hm
   have HPn:Hid (mayP p (decide (k=0))=false→FarE s k):=fun hm=>⟨HF.out,fun _ h2=>by
    rcases hp with⟨h1,h3⟩|⟨h3,_⟩
    ·rw[← h3];exact hm
    ·have:=HN.out;omega⟩
   have HPr:Hid (mayP p (decide (k=0))=true→0≤p∧p≤255):=fun hm=>by
    obtain⟨_,h2⟩:=HPp.out hm
    rw[h2];exact⟨bt_nonneg s k,bt_le s k⟩
   have HFx:Hid (mayP p (decide (k=0))=true→Far s (k+1)):=fun hm=>by
    obtain⟨h1,h2⟩:=HPp.out hm
    exact far_next HF.out hlt h1 (by rw[← h2];exact hm)
   clear hP hp HP0 HPp
   have HLt:=hide (isLetR p wr)
   have HDg:=hide (isDigR p wr)
   obtain⟨dg,hdg⟩:=named (decide (48≤p∧p≤57))
   obtain⟨a,ha⟩:=named (letP p)
   have hnb:Hid (mayP p (decide (k=0))=(a||decide (p=95)||(!decide (k=0)&&dg))):=by show _=_;unfold mayP;rw[ha,hdg,Bool.decide_and,Bool.and_assoc]
   rw[← ha]at HLt
   rw[← hdg]at HDg
   clear ha hdg
   obtain⟨mz,hmz⟩:=named (mayP p (decide (k=0)))
   rw[← hmz]at HPn HPr HFx hnb
   clear hmz
   have hcv:=conv_one wr p
   obtain⟨P1,hP1⟩:=named (strOfNums [p])
   have hP1s:P1.size=1:=by rw[hP1];exact one_size p
   rw[← hP1]at hcv
   have hc1:B.size+P1.size≤9223372036854775807:=by have h1:=HB.out;omega
   have hc2:¬(9223372036854775807<B.size+P1.size):=by omega
   have hsz2:Hid ((B++P1).size=k+1):=by show _=_;rw[ByteArray.size_append,HB.out,hP1s]
   have hB2:Hid (Below w.heap.size w (wr.alloc (.cells #[.int .u8 p] 5))):=HBl.out.alloc HBl.out.size _
   clear hP1 hP1s
   cases a with
   |true=>
    have hmz:mz=true:=by rw[hnb.out];rfl
    have HFy:=hide (HFx.out hmz)
    obtain⟨p0,p1⟩:=HPr.out hmz
    have hcw:IntKind.u8.wrap p=p:=by rw[IntKind.wrap_u8];omega
    clear hnb hmz HPn HPr HFx
    go_wp2_with fail
    refine HP.out.mono ?_
    rintro e w' ⟨rfl,hh⟩
    subst hh
    go_wp2_with fail
    refine HLt.out.mono ?_
    rintro e w' ⟨rfl,hh⟩
    subst hh
    go_wp2
    go_roundw
    case rel=>exact⟨k+1,by go_num,_,rfl,hsz2.out,HFy.out,hB2.out⟩
    case measure=>show 20 - (B++P1).size<20 - B.size;rw[hsz2.out,HB.out];omega
   |false=>
    by_cases h95:p=95
    ·have hmz:mz=true:=by rw[hnb.out,h95];rfl
     have HFy:=hide (HFx.out hmz)
     obtain⟨p0,p1⟩:=HPr.out hmz
     have hcw:IntKind.u8.wrap p=p:=by rw[IntKind.wrap_u8];omega
     have hb95:(p !=95)=false:=by simpa using h95
     clear hnb hmz HPn HPr HFx h95
     go_wp2_with fail
     refine HP.out.mono ?_
     rintro e w' ⟨rfl,hh⟩
     subst hh
     go_wp2_with fail
     refine HLt.out.mono ?_
     rintro e w' ⟨rfl,hh⟩
     subst hh
     go_wp2
     go_roundw
     case rel=>exact⟨k+1,by go_num,_,rfl,hsz2.out,HFy.out,hB2.out⟩
     case measure=>show 20 - (B++P1).size<20 - B.size;rw[hsz2.out,HB.out];omega
    ·have hb95:(p !=95)=true:=by simpa using h95
     by_cases hk0:k=0
     ·have hmz:mz=false:=by rw[hnb.out];simp[h95,hk0]
      have HFe:=hide (HPn.out hmz)
      have hz0:(((B.size:Nat):Int)==0)=true:=by rw[HB.out,hk0];rfl
      clear hnb hmz HPn HPr HFx h95 hcv hc1 hc2 hsz2 hB2 hk0
      go_wp2_with fail
      refine HP.out.mono ?_
      rintro e w' ⟨rfl,hh⟩
      subst hh
      go_wp2_with fail
      refine HLt.out.mono ?_
      rintro e w' ⟨rfl,hh⟩
      subst hh
      go_wp2
      go_ret2
      exact⟨k,HFe.out,B,HB.out,rfl,HBl.out⟩
     ·have hz0:(((B.size:Nat):Int)==0)=false:=by rw[HB.out,beq_eq_false_iff_ne];omega
      cases dg with
      |true=>
       have hmz:mz=true:=by rw[hnb.out];simp[hk0]
       have HFy:=hide (HFx.out hmz)
       obtain⟨p0,p1⟩:=HPr.out hmz
       have hcw:IntKind.u8.wrap p=p:=by rw[IntKind.wrap_u8];omega
       clear hnb hmz HPn HPr HFx h95
       go_wp2_with fail
       refine HP.out.mono ?_
       rintro e w' ⟨rfl,hh⟩
       subst hh
       go_wp2_with fail
       refine HLt.out.mono ?_
       rintro e w' ⟨rfl,hh⟩
       subst hh
       go_wp2_with fail
       refine HDg.out.mono ?_
       rintro e w' ⟨rfl,hh⟩
       subst hh
       go_wp2
       go_roundw
       case rel=>exact⟨k+1,by go_num,_,rfl,hsz2.out,HFy.out,hB2.out⟩
       case measure=>show 20 - (B++P1).size<20 - B.size;rw[hsz2.out,HB.out];omega
      |false=>
       have hmz:mz=false:=by rw[hnb.out];simp[h95]
       have HFe:=hide (HPn.out hmz)
       clear hnb hmz HPn HPr HFx h95 hcv hc1 hc2 hsz2 hB2
       go_wp2_with fail
       refine HP.out.mono ?_
       rintro e w' ⟨rfl,hh⟩
       subst hh
       go_wp2_with fail
       refine HLt.out.mono ?_
       rintro e w' ⟨rfl,hh⟩
       subst hh
       go_wp2_with fail
       refine HDg.out.mono ?_
       rintro e w' ⟨rfl,hh⟩
       subst hh
       go_wp2
       go_ret2
       exact⟨k,HFe.out,B,HB.out,rfl,HBl.out⟩
  ·have e1:¬((B.size:Nat):Int)<20:=by have:=HB.out;omega
   have HFe:Hid (FarE s k):=⟨HF.out,fun h1=>absurd h1 hlt⟩
   go_wp2
   go_ret2
   exact⟨k,HFe.out,B,HB.out,rfl,HBl.out⟩
def btS(s:ByteArray)(k:Nat):List Value:=(List.range k).map fun i=>.int .i64 (bt s i)
theorem btS_next(s:ByteArray)(k:Nat):btS s (k+1)=btS s k++[.int .i64 (bt s k)]:=by
 unfold btS;rw[List.range_succ,List.map_append];rfl
theorem rdS_own{B:Nat}{w:World}{ao:Option Addr}{s:ByteArray}{c:Nat}(h:w.ownsRow B 3 1 (.slice ao s.size c) s.size (btS s s.size)):RdS w ao s:=fun i hi=>by
 rcases h.2 with⟨_,h0⟩|⟨g,cap,cur,e,_⟩
 ·omega
 ·injection e with e1 _ e2
  subst e1
  subst e2
  refine⟨_,rfl,?_⟩
  have:=h.cellAt i (by omega)
  rw[show (⟨g,0,none⟩:Addr).add i=⟨g,i,none⟩ by unfold Addr.add;split<;>simp_all,this]
  unfold btS
  simp[hi]
theorem isNameR(s:ByteArray)(w:World)(hs:s.size≤1048576):Calls prog 47 #[.string s] w fun e w'=>e=.returned (.bool (nmS s))∧Below w.heap.size w w':=by
 have hg:=get_bt s
 obtain⟨i0,hi,hz0,hz1,hz2⟩:=info_parts info3
 obtain⟨R,hR⟩:=named (nmS s)
 have HR:=hide hR
 rw[← hR]
 clear hR
 go_enter func47,ntmps47
 go_wp2
 go_loopw [3,4] (fun v c wr=>∃(j:Nat),j≤s.size∧c=.int .i64 j∧wr.ownsRow w.heap.size 3 1 v j (btS s j)∧Below w.heap.size w wr) (fun _ c _=>s.size - (intOf c).toNat)
 case atStart=>exact⟨0,Nat.zero_le _,rfl,⟨rfl,.inl ⟨rfl,rfl⟩⟩,belR _ _⟩
 case round=>
  obtain⟨j,hj,rfl,ho,hb⟩:=hrel
  obtain⟨ro,rc,rfl⟩:=own_shape ho
  have HO:=hide ho
  have HB:=hide hb
  have hsz:=hb.size
  clear ho hb
  by_cases hlt:j<s.size
  ·have e2:(j:Int)<(s.size:Int):=by omega
   have e3:(0:Int)≤(j:Int):=by omega
   have e4:=bt_nonneg s j
   have e5:=bt_le s j
   have hcw:IntKind.i64.wrap (bt s j)=bt s j:=by rw[IntKind.wrap_i64];omega
   go_wp2_with (at_builtin;refine wpList_append_own _ rfl _ _ 44 rfl w.heap.size 3 i0 _ 1 8 underlying44 hi hz0 hz1 hz2 rfl (by decide) _ _ _ rfl (HO.out.alloc _) ⟨wr.heap.size,0,none⟩ 1 1 [.int .i64 (bt s j)] rfl rfl (World.news_of_block (cs:=#[.int .i64 (bt s j)]) (t:=3) (fr:=(0,0)) (at_new _ _)) (q_int1 _) (by unfold maxLen;omega) (by omega) (by simp;omega) ?_)
   intro v5 w5 hown5 hgrow5 _
   have hb5:Below w.heap.size w w5:=(HB.out.alloc hsz _).grown hgrow5 (by simp;omega) (fun q hq=>(HO.out.lt q hq).1)
   rw[← btS_next]at hown5
   have HO5:=hide hown5
   have HB5:=hide hb5
   clear hown5 hgrow5 hb5
   go_wp2
   go_roundw
   case rel=>exact⟨j+1,by omega,by go_num,HO5.out,HB5.out⟩
   case measure=>simp[intOf];omega
  ·have e2:¬(j:Int)<(s.size:Int):=by omega
   have hjs:j=s.size:=by omega
   subst hjs
   have HNA:=hide (nameAtR s ro rc wr (rdS_own HO.out))
   go_wp2_with fail
   refine HNA.out.mono ?_
   rintro e w2 ⟨k,hF,T,hT,rfl,hb2⟩
   have HB2:=hide (HB.out.andT hb2)
   have HFm:Hid (R=(!decide (k=0)&&decide (k=s.size))):=by show _=_;rw[HR.out];exact far_nm hF
   clear hF hb2
   by_cases h0:k=0
   ·have h1:=(list_size T).2 (by omega)
    have h2:T.toList.isEmpty=true:=by rw[h1];rfl
    have HE:Hid (R=false):=by show _=_;rw[HFm.out];simp[h0]
    have h3:(T.toList==([]:List UInt8))=true:=by rw[h1];rfl
    clear hT
    go_wp2
    go_ret
    exact⟨by rw[HE.out];rfl,HB2.out⟩
   ·have h1:¬T.toList=[]:=fun hh=>h0 (by have:=(list_size T).1 hh;omega)
    have h2:T.toList.isEmpty=false:=by
     cases hh:T.toList with
     |nil=>exact absurd hh h1
     |cons _ _=>rfl
    by_cases hks:k=s.size
    ·have HE:Hid (R=true):=by show _=_;rw[HFm.out,show decide (k=s.size)=true by simpa using hks,show decide (k=0)=false by simpa using h0];rfl
     have hb1:((k:Int)==(s.size:Int))=true:=by simp;omega
     clear hT h0 hks
     go_wp2
     go_ret
     exact⟨by rw[HE.out];rfl,HB2.out⟩
    ·have HE:Hid (R=false):=by show _=_;rw[HFm.out];simp[hks]
     have hb1:((k:Int)==(s.size:Int))=false:=by simp;omega
     clear hT h0 hks
     go_wp2
     go_ret
     exact⟨by rw[HE.out];rfl,HB2.out⟩
end Go.Proofs.YtfnndcbjklppeaaGreatDoor
namespace Go.Proofs.YtfnndcbjklppeaaGreatDoor
open Go.RowKit
theorem checkPat_some{w0:World}{n:NV}{t:Tr}(h:NodeC w0 n t)(hsm:smT t)(g:Int)(x:Addr)(cn:Nat)(N:NmL)(w:World)(hw0:Below w0.heap.size w0 w)(hc:N.length≤cn∧cn≤9223372036854775807)(hcl:Cells2N w x N)(hnz:∀i,i<N.length→(ntx N i).size≤1048576):Calls prog 23 #[patNV n g (some x) N.length cn] w fun e w'=>∃z,PatE t g N z∧e=.returned (.int .i64 z)∧Below w.heap.size w w':=by
 obtain⟨mn,hmn⟩:=named N.length
 have HMN:=hide hmn
 have HNZ:Hid (∀i,i<mn→(ntx N i).size≤1048576):=fun i hi=>hnz i (by omega)
 have HCL:Hid (∀W,Below w.heap.size w W→∀j,j<mn→W.cell? (x.add (j*2))=some (.string (ntx N j))∧W.cell? ⟨(x.add (j*2)).block,(x.add (j*2)).off+1,none⟩=some (.int .i64 (nnx N j))):=fun W hW j hj=>by
  have hj':j<N.length:=by omega
  rw[ntx_at hj',nnx_at hj']
  have:=hcl j hj'
  exact⟨below_cell hW (lt_of_cell this.1) this.1,below_cell hW (lt_of_cell this.2) this.2⟩
 have HE1:Hid (∀i,i<mn→nmS (ntx N i)=false→NameE N 1):=fun i hi hn=>.inl ⟨rfl,i,by omega,hn⟩
 have HE6:Hid (AllNm N mn→∀i,i<mn→∀k,k<i→TwAt N k i→NameE N 6):=fun ha i hi k hk ht=>.inr (.inl ⟨rfl,by rw[← hmn];exact ha,i,by omega,k,hk,ht⟩)
 have HE4:Hid (AllNm N mn→NoTw N mn→∀i,1≤i→i<mn→¬nnx N (i - 1)<nnx N i→NameE N 4):=fun ha hn i h1 hi hr=>.inr (.inr (.inl ⟨rfl,by rw[← hmn];exact ha,by rw[← hmn];exact hn,i,h1,by omega,hr⟩))
 have HE0:Hid (AllNm N mn→NoTw N mn→Rises N mn→NameE N 0):=fun ha hn hr=>.inr (.inr (.inr ⟨rfl,by rw[← hmn];exact ha,by rw[← hmn];exact hn,by rw[← hmn];exact hr⟩))
 rw[← hmn]at hc ⊢
 clear hcl hnz hmn
 have hb1:Below w.heap.size w (w.alloc (patNO n g (some x) mn cn)):=allocB w _
 obtain⟨w1,hw1⟩:=named (w.alloc (patNO n g (some x) mn cn))
 have hX1:w1.heap[w.heap.size]? =some (patNO n g (some x) mn cn):=by rw[hw1];exact at_new _ _
 rw[← hw1]at hb1
 have HB1:=hide hb1
 have HX1:=hide hX1
 have HW0:=hide hw0
 have HTG:=hide (tooGreat_any h hsm w1 (hw0.andT hb1))
 have HFl:=hide (fun hs W hW=>flat_any' h hs W hW)
 have HSm:=hide (sm_flat t hsm)
 obtain⟨⟨d0,d1,d2,d3,d4,d5,d6,d7⟩,d8,d9⟩:=patN_cells hX1
 obtain⟨R,hR⟩:=named (treeE t g)
 have HRg:Hid (R=patR (ckF (flatT t) 0) g (agF (flatT t))):=by show _=_;rw[hR,treeE_ck]
 have HPe0:Hid (cntA t<1001→∀z,z≠0→R=z→PatE t g N z):=fun hh z hz e=>.inr ⟨hh,.inl ⟨by rw[← hR,e];exact hz,by rw[← hR,e]⟩⟩
 have HP50:Hid (cntA t<1001→R=0→numsE g (N.map (·.2))≠0→PatE t g N 5):=fun hh e e2=>.inr ⟨hh,.inr (.inl ⟨by rw[← hR,e],e2,rfl⟩)⟩
 have HPn0:Hid (cntA t<1001→R=0→numsE g (N.map (·.2))=0→∀z,NameE N z→PatE t g N z):=fun hh e e2 z hz=>.inr ⟨hh,.inr (.inr ⟨by rw[← hR,e],e2,hz⟩)⟩
 have HP2:Hid (¬cntA t<1001→PatE t g N 2):=fun hh=>.inl ⟨hh,rfl⟩
 simp only[patNO]at hw1
 clear h hsm hw0 hb1 hX1 hR
 simp only[patNV]
 by_cases hlt:cntA t<1001
 ·have hsz := cntA_sz hlt
  rw[show (!decide (cntA t<1001))=false by simp[hlt]]at HTG
  have HR:=HRg
  have HSz:=hide hsz
  have HPe:=hide (HPe0.out hlt)
  have HP5:=hide (HP50.out hlt)
  have HPn:=hide (HPn0.out hlt)
  clear HP2 HRg hsz hlt HPe0 HP50 HPn0
  go_enter func23,ntmps23
  go_wp2_with fail
  rw[← hw1]
  clear hw1
  refine HTG.out.mono ?_
  rintro e w2 ⟨rfl,hb2⟩
  have HB2:=hide (HB1.out.andT hb2)
  have HX2:=hide (show w2.heap[w.heap.size]? =some (patNO n g (some x) mn cn) by rw[hb2.block _ (lt_of_block HX1.out)];exact HX1.out)
  clear hb2 HTG HB1 HX1 d0 d1 d2 d3 d4 d5 d6 d7 d8 d9
  obtain⟨⟨d0,d1,d2,d3,d4,d5,d6,d7⟩,d8,d9⟩:=patN_cells HX2.out
  have HFl2:=hide (HFl.out HSz.out w2 (HW0.out.andT HB2.out))
  clear HFl
  go_wp2_with fail
  refine HFl2.out.mono ?_
  rintro e w3 ⟨v,F,rfl,hF,hb3⟩
  have HB3:=hide (HB2.out.andT hb3)
  have HX3:=hide (show w3.heap[w.heap.size]? =some (patNO n g (some x) mn cn) by rw[hb3.block _ (lt_of_block HX2.out)];exact HX2.out)
  have hlen:=hF.len
  obtain⟨gr,cap,hv,_⟩:=hF.form
  rw[hv]at hF ⊢
  obtain⟨m,hm⟩:=named F.length
  have hm1:m≤1000:=by have:=HSz.out;omega
  have HM:=hide hm
  rw[← hm]at hF ⊢
  have HF:=hide hF
  obtain⟨B,hB⟩:=named w2.heap.size
  rw[← hB]at HF
  have hfl:(flatT t).length=m:=by rw[flat_len];omega
  have HLen:=hide hfl
  clear hF hv hlen hb3 HB2 HX2 d0 d1 d2 d3 d4 d5 d6 d7 d8 d9 hm HFl2 hB hfl
  go_wp2
  go_loopw [4,5] (fun a c wr=>∃(j:Nat) (q:Int),j≤m∧c=.int .i64 j∧a=.int .i64 q∧(0≤q∧q≤j)∧ckF (flatT t) 0=ckF ((flatT t).drop j) q∧FlatR w0 B wr (.slice (some ⟨gr,0,none⟩) m cap) F t∧wr.heap[w.heap.size]? =some (patNO n g (some x) mn cn)∧Below w.heap.size w wr) (fun _ c _=>m - (intOf c).toNat)
  case atStart=>exact⟨0,0,Nat.zero_le _,rfl,rfl,⟨Int.le_refl _,by omega⟩,by simp,HF.out,HX3.out,HB3.out⟩
  case round=>
   obtain⟨j,q,hj,rfl,rfl,hq,hC,hF,hx,hb⟩:=hrel
   obtain⟨w4,hw4⟩:=named wr
   subst hw4
   have HC:=hide hC
   have HF4:=hide hF
   have HX4:=hide hx
   have HB4:=hide hb
   clear hC hF hx hb HF HX3 HB3
   by_cases hlt:j<m
   ·have hjF:j<F.length:=by have:=HM.out;omega
    obtain⟨h2,hg1,hg2,hg3⟩:=HF4.out.get hjF
    obtain⟨gr',cap',hv',hcl⟩:=HF4.out.form
    have hgr:gr'=gr:=by injection hv' with h1;injection h1 with h1;injection h1 with h1;exact h1.symm
    rw[hgr]at hcl
    clear hv' hgr
    have hcj:=hcl j hjF
    have hN:NodeC w0 F[j].1 F[j].2:=HF4.out.nd _ (List.getElem_mem _)
    have hD:=ckF_drop h2 q
    rw[hg1,hg2,hg3]at hD
    have hsx:F[j].2.kids.length≤4611686018427387904:=by
     have:=HSm.out (flatT t)[j] (List.getElem_mem _)
     rw[hg1,smT_kids]at this
     exact this.1
    have hB0:Below w0.heap.size w0 w4:=HW0.out.andT HB4.out
    have HRN:=hide (rightNode_any F[j].1 F[j].2 w4 (hN.keep hB0) hsx)
    obtain⟨xn,hxn⟩:=named (F[j].1)
    obtain⟨z,hz⟩:=named (rnE F[j].2)
    rw[← hxn, ←hz]at HRN hD
    rw[← hxn]at hcj
    have HD:=hide hD
    have HXn:=hide hxn
    obtain⟨f0,f1,f2,f3,f4,f5,f6,f7⟩:=hcj
    simp only at f1 f2 f3 f4 f5 f6 f7
    have e1:(j:Int)<(m:Int):=by omega
    have e2:(0:Int)≤(j:Int):=by omega
    clear h2 hg1 hg2 hg3 hcl hN hD hsx hB0 hxn hz
    go_wp2_with fail
    refine HRN.out.mono ?_
    rintro e w5 ⟨rfl,hb5⟩
    have HB5:=hide (HB4.out.andT hb5)
    have HX5:=hide (show w5.heap[w.heap.size]? =some (patNO n g (some x) mn cn) by rw[hb5.block _ (lt_of_block HX4.out)];exact HX4.out)
    have HF5:=hide (HF4.out.keep hb5)
    obtain⟨gr',cap',hv',hcl⟩:=HF5.out.form
    have hgr:gr'=gr:=by injection hv' with h1;injection h1 with h1;injection h1 with h1;exact h1.symm
    rw[hgr]at hcl
    clear hv' hgr
    have hcj:=hcl j hjF
    rw[← HXn.out]at hcj
    have c0:=hcj.c0
    have c3:=hcj.c3
    simp only at c3
    clear hb5 HRN HF4 HX4 HB4 f0 f1 f2 f3 f4 f5 f6 f7 hcl hcj
    by_cases hz0:z=0
    ·subst hz0
     by_cases h11:xn.kind=11
     ·have b11:(xn.kind==11)=true:=by simpa using h11
      have hqw:IntKind.i64.wrap (q+1)=q+1:=by rw[IntKind.wrap_i64];omega
      by_cases hnm:xn.num=q+1
      ·have hN2:Hid (ckF (flatT t) 0=ckF ((flatT t).drop (j+1)) (q+1)):=by show _=_;rw[HC.out,HD.out,if_neg (fun hh=>hh rfl),if_pos h11,if_pos hnm]
       have bn:(xn.num==q+1)=true:=by simpa using hnm
       have bn2:(xn.num !=q+1)=false:=by simpa using hnm
       clear h11 hnm
       go_wp2
       go_roundw
       case rel=>exact⟨j+1,q+1,by omega,by go_num,by go_num,⟨by omega,by omega⟩,hN2.out,HF5.out,HX5.out,HB5.out⟩
       case measure=>simp[intOf];omega
      ·have hE:Hid (R=4):=by show _=_;rw[HR.out,HC.out,HD.out,if_neg (fun hh=>hh rfl),if_pos h11,if_neg hnm];rfl
       have bn:(xn.num==q+1)=false:=by simpa using hnm
       have bn2:(xn.num !=q+1)=true:=by simpa using hnm
       clear h11 hnm
       go_wp2
       go_ret
       exact⟨4,HPe.out 4 (by decide) hE.out,rfl,HB5.out⟩
     ·have hN2:Hid (ckF (flatT t) 0=ckF ((flatT t).drop (j+1)) q):=by show _=_;rw[HC.out,HD.out,if_neg (fun hh=>hh rfl),if_neg h11]
      have b11:(xn.kind==11)=false:=by simpa using h11
      clear h11
      go_wp2
      go_roundw
      case rel=>exact⟨j+1,q,by omega,by go_num,rfl,⟨by omega,by omega⟩,hN2.out,HF5.out,HX5.out,HB5.out⟩
      case measure=>simp[intOf];omega
    ·have hE:Hid (R=z):=by show _=_;rw[HR.out,HC.out,HD.out,if_pos hz0];rfl
     have HPz:=hide (HPe.out z hz0 hE.out)
     have bz:(z==0)=false:=by simpa using hz0
     have bz2:(z !=0)=true:=by simpa using hz0
     clear hz0
     go_wp2
     go_ret
     exact⟨z,HPz.out,rfl,HB5.out⟩
   ·have e1 : ¬ (j :Int)<(m:Int):=by omega
    have hE:R=if 20<q then 2 else if q=g then numsE q (agF (flatT t))else 4:=by
     rw[HR.out,HC.out,List.drop_eq_nil_of_le (by rw[HLen.out];omega)];rfl
    obtain⟨-,d8,d9⟩:=patN_cells HX4.out
    have hq20:q≤1000:=by omega
    clear HR HC
    by_cases h20:20<q
    ·rw [if_pos h20]at hE
     have HPz:=hide (HPe.out 2 (by decide) hE)
     clear hE
     go_wp2
     go_ret
     exact⟨2,HPz.out,rfl,HB4.out⟩
    ·rw [if_neg h20] at hE
     by_cases hgq:q=g
     ·rw [if_pos hgq] at hE
      have bq:(g==q)=true:=by simpa using hgq.symm
      have bq2:(g !=q)=false:=by simpa using hgq.symm
      have HE:=hide hE
      have HGQ:=hide hgq
      clear hE hgq
      go_wp2
      go_loopw [7] (fun c wr=>∃(j:Nat),j≤m∧c=.int .i64 j∧numsE q (agF (flatT t))=numsE q (agF ((flatT t).drop j))∧wr=w4) (fun c _=>m - (intOf c).toNat)
      case atStart=>exact⟨0,Nat.zero_le _,rfl,by simp,rfl⟩
      case round=>
       obtain⟨j2,hj2,rfl,hA,hwr⟩:=hrel
       obtain⟨w5,hw5⟩:=named wr
       rw[← hw5]at hwr ⊢
       subst hwr
       clear hw5
       have HA:=hide hA
       clear hA
       by_cases hlt2:j2<m
       ·have hjF:j2<F.length:=by have:=HM.out;omega
        obtain⟨h2,hg1,hg2,hg3⟩:=HF4.out.get hjF
        obtain⟨gr',cap',hv',hcl⟩:=HF4.out.form
        have hgr:gr'=gr:=by injection hv' with h1;injection h1 with h1;injection h1 with h1;exact h1.symm
        rw[hgr]at hcl
        have hcj:=hcl j2 hjF
        have hD:=agF_drop h2
        rw[hg1,hg2,hg3]at hD
        obtain⟨xn,hxn⟩:=named (F[j2].1)
        rw[← hxn]at hD hcj
        have c0:=hcj.c0
        have c3:=hcj.c3
        simp only at c3
        have HD:=hide hD
        have f1:(j2:Int)<(m:Int):=by omega
        have f2:(0:Int)≤(j2:Int):=by omega
        clear h2 hg1 hg2 hg3 hv' hgr hcl hcj hD hxn
        by_cases h18:xn.kind=18
        ·have b18:(xn.kind==18)=true:=by simpa using h18
         have HQ:=hide (q_betw xn.num 1 q w5)
         have hN:Hid (numsE q (agF (flatT t))=if numE q xn.num=0 then numsE q (agF ((flatT t).drop (j2+1)))else 5):=by show _=_;rw[HA.out,HD.out,if_pos h18];rfl
         by_cases hb:1≤xn.num∧xn.num≤q
         ·rw [show decide (1≤xn.num∧xn.num≤q)=true by simpa using hb]at HQ
          have hN2:Hid (numsE q (agF (flatT t))=numsE q (agF ((flatT t).drop (j2+1)))):=by show _=_;rw[hN.out,if_pos (by unfold numE;rw[if_pos hb])]
          clear h18 hb
          go_wp2_with fail
          refine HQ.out.mono ?_
          rintro e w6 ⟨rfl,hh⟩
          subst hh
          go_wp2
          go_roundw
          case rel=>exact⟨j2+1,by omega,by go_num,hN2.out,trivial⟩
          case measure=>simp[intOf];omega
         ·rw [show decide (1≤xn.num∧xn.num≤q)=false by simpa using hb]at HQ
          have hN2:Hid (R=5):=by show _=_;rw[HE.out,hN.out,if_neg (by unfold numE;rw[if_neg hb];omega)]
          clear h18 hb
          go_wp2_with fail
          refine HQ.out.mono ?_
          rintro e w6 ⟨rfl,hh⟩
          subst hh
          go_wp2
          go_ret
          exact⟨5,HPe.out 5 (by decide) hN2.out,rfl,HB4.out⟩
        ·have b18:(xn.kind==18)=false:=by simpa using h18
         have hN:Hid (numsE q (agF (flatT t))=numsE q (agF ((flatT t).drop (j2+1)))):=by show _=_;rw[HA.out,HD.out,if_neg h18]
         clear h18
         go_wp2
         go_roundw
         case rel=>exact⟨j2+1,by omega,by go_num,hN.out,trivial⟩
         case measure=>simp[intOf];omega
       ·have f1 : ¬ (j2:Int)<(m:Int):=by omega
        have hN:Hid (R=0):=by show _=_;rw[HE.out,HA.out,List.drop_eq_nil_of_le (by rw[HLen.out];omega)];rfl
        have HP5z:Hid (numsE g (N.map (·.2))≠0→PatE t g N 5):=fun hh=>HP5.out hN.out hh
        have HPnz:Hid (numsE g (N.map (·.2))=0→∀z,NameE N z→PatE t g N z):=fun hh=>HPn.out hN.out hh
        have HX5:=HX4
        have HB5:=HB4
        clear HPe HP5 HPn HE HA hN HF4 HX4 HB4 d8 d9 f1 HM HLen
        go_wp2
        go_loopw [8] (fun v wr=>∃(a:Nat),a≤mn∧v=.int .i64 a∧numsE g (N.map (·.2))=numsE g ((N.map (·.2)).drop a)∧wr.heap[w.heap.size]? =some (patNO n g (some x) mn cn)∧Below w.heap.size w wr) (fun v _=>mn - (intOf v).toNat)
        case atStart=>exact⟨0,Nat.zero_le _,rfl,by simp,HX5.out,HB5.out⟩
        case round=>
         obtain⟨a,ha,rfl,hA,hx,hb⟩:=hrel
         obtain⟨w6,hw6⟩:=named wr
         subst hw6
         have HA:=hide hA
         have HX6:=hide hx
         have HB6:=hide hb
         clear hA hx hb HX5 HB5
         obtain⟨-, -,d9⟩:=patN_cells HX6.out
         by_cases hla:a<mn
         ·obtain ⟨m0,m1⟩:=HCL.out w6 HB6.out a hla
          obtain⟨b,hb⟩:=named (nnx N a)
          rw[← hb]at m1
          have hD:=numsE_drop (g:=g) (l:=N.map (·.2)) (j:=a) (by have:=HMN.out;simp;omega)
          rw[show (N.map (·.2))[a]'(by have:=HMN.out;simp;omega)=b by rw[hb,nnx_at (by have:=HMN.out;omega)];simp]at hD
          have HD:=hide hD
          have HQ:=hide (q_betw b 1 q w6)
          have g1:(a:Int)<(mn:Int):=by omega
          have g2:(0:Int)≤(a:Int):=by omega
          have hkw:IntKind.i64.wrap ((a:Int)+1)=(a:Int)+1:=by rw[IntKind.wrap_i64];omega
          clear hb hD m0
          by_cases hbq:1≤b∧b≤q
          ·rw [show decide (1≤b∧b≤q)=true by simpa using hbq]at HQ
           have hN2:Hid (numsE g (N.map (·.2))=numsE g ((N.map (·.2)).drop (a+1))):=by show _=_;rw[HA.out,HD.out,if_pos (by unfold numE;rw[if_pos (by rw[← HGQ.out];exact hbq)])]
           clear hbq HD HA
           go_wp2_with fail
           refine HQ.out.mono ?_
           rintro e w7 ⟨rfl,hh⟩
           subst hh
           go_wp2
           go_roundw
           case rel=>exact⟨a+1,by omega,by go_num,hN2.out,HX6.out,HB6.out⟩
           case measure=>simp[intOf];omega
          ·rw [show decide (1≤b∧b≤q)=false by simpa using hbq]at HQ
           have hN2:Hid (PatE t g N 5):=HP5z.out (by rw[HA.out,HD.out,if_neg (by unfold numE;rw[if_neg (by rw[← HGQ.out];exact hbq)];omega)];omega)
           clear hbq HD HA
           go_wp2_with fail
           refine HQ.out.mono ?_
           rintro e w7 ⟨rfl,hh⟩
           subst hh
           go_wp2
           go_ret
           exact⟨5,hN2.out,rfl,HB6.out⟩
         ·have g1 : ¬(a:Int)<(mn:Int):=by omega
          have HNE:Hid (∀z,NameE N z→PatE t g N z):=HPnz.out (by rw[HA.out,List.drop_eq_nil_of_le (by have:=HMN.out;simp;omega)];rfl)
          clear HP5z HPnz HA HGQ HMN
          go_wp2
          go_loopw [9] (fun v wr=>∃(a:Nat),a≤mn∧v=.int .i64 a∧AllNm N a∧wr.heap[w.heap.size]? =some (patNO n g (some x) mn cn)∧Below w.heap.size w wr) (fun v _=>mn - (intOf v).toNat)
          case atStart=>exact⟨0,Nat.zero_le _,rfl,fun i hi=>by omega,HX6.out,HB6.out⟩
          case round=>
           obtain⟨a,ha,rfl,hA,hx,hb⟩:=hrel
           obtain⟨w7,hw7⟩:=named wr
           subst hw7
           have HA:=hide hA
           have HX7:=hide hx
           have HB7:=hide hb
           clear hA hx hb HX6 HB6 d9
           obtain⟨-, -,d9⟩:=patN_cells HX7.out
           by_cases hla:a<mn
           ·obtain ⟨m0,m1⟩:=HCL.out w7 HB7.out a hla
            have HI:=hide (isNameR (ntx N a) w7 (HNZ.out a hla))
            obtain⟨z,hz⟩:=named (nmS (ntx N a))
            obtain⟨b,hb⟩:=named (ntx N a)
            have HZ:Hid (nmS (ntx N a)=z):=hz.symm
            rw[← hz]at HI
            rw[← hb]at m0 HI
            have g1:(a:Int)<(mn:Int):=by omega
            have g2:(0:Int)≤(a:Int):=by omega
            have hkw:IntKind.i64.wrap ((a:Int)+1)=(a:Int)+1:=by rw[IntKind.wrap_i64];omega
            clear hz hb m1
            go_wp2_with fail
            refine HI.out.mono ?_
            rintro e w8 ⟨rfl,hb8⟩
            have HB8:=hide (HB7.out.andT hb8)
            have HX8:=hide (show w8.heap[w.heap.size]? =some (patNO n g (some x) mn cn) by rw[hb8.block _ (lt_of_block HX7.out)];exact HX7.out)
            clear hb8 HI d9 m0
            cases z with
            |true=>
             go_wp2
             go_roundw
             case rel=>exact⟨a+1,by omega,by go_num,fun i hi=>by
              by_cases hij:i=a
              ·rw[hij];exact HZ.out
              ·exact HA.out i (by omega),HX8.out,HB8.out⟩
             case measure=>simp[intOf];omega
            |false=>
             have HN1:=hide (HNE.out 1 (HE1.out a hla HZ.out))
             go_wp2
             go_ret
             exact⟨1,HN1.out,rfl,HB8.out⟩
           ·have g1 :¬(a:Int)<(mn:Int):=by omega
            have HAll:Hid (AllNm N mn):=by show AllNm _ _;have:=HA.out;rw[show a=mn by omega]at this;exact this
            clear HA HE1
            go_wp2
            go_loopw [10] (fun v wr=>∃(i:Nat),i≤mn∧v=.int .i64 i∧NoTw N i∧wr.heap[w.heap.size]? =some (patNO n g (some x) mn cn)∧Below w.heap.size w wr) (fun v _=>mn - (intOf v).toNat)
            case atStart=>exact⟨0,Nat.zero_le _,rfl,fun i hi=>by omega,HX7.out,HB7.out⟩
            case round=>
             obtain⟨i,hi,rfl,hT,hx,hb⟩:=hrel
             obtain⟨w8,hw8⟩:=named wr
             subst hw8
             have HT:=hide hT
             have HX8:=hide hx
             have HB8:=hide hb
             clear hT hx hb HX7 HB7 d9
             obtain⟨-, -,d9⟩:=patN_cells HX8.out
             by_cases hli:i<mn
             ·have g1:(i:Int)<(mn:Int):=by omega
              have g2:(0:Int)≤(i:Int):=by omega
              have hkw:IntKind.i64.wrap ((i:Int)+1)=(i:Int)+1:=by rw[IntKind.wrap_i64];omega
              go_wp2
              go_loopw [11] (fun v wr=>∃(k:Nat),k≤i∧v=.int .i64 k∧(∀q,q<k→¬TwAt N q i)∧wr.heap[w.heap.size]? =some (patNO n g (some x) mn cn)∧Below w.heap.size w wr) (fun v _=>i - (intOf v).toNat)
              case atStart=>exact⟨0,Nat.zero_le _,rfl,fun q hq=>by omega,HX8.out,HB8.out⟩
              case round=>
               obtain⟨k,hk,rfl,hQ,hx,hb⟩:=hrel
               obtain⟨w9,hw9⟩:=named wr
               subst hw9
               have HQ:=hide hQ
               have HX9:=hide hx
               have HB9:=hide hb
               clear hQ hx hb HX8 HB8 d9
               obtain⟨-, -,d9⟩:=patN_cells HX9.out
               by_cases hlk:k<i
               ·obtain ⟨m0,m1⟩:=HCL.out w9 HB9.out i hli
                obtain⟨l0,l1⟩:=HCL.out w9 HB9.out k (by omega)
                obtain⟨a1,ha1⟩:=named (ntx N i)
                obtain⟨b1,hb1⟩:=named (nnx N i)
                obtain⟨a2,ha2⟩:=named (ntx N k)
                obtain⟨b2,hb2⟩:=named (nnx N k)
                have HTw:Hid (TwAt N k i↔a2=a1∨b2=b1):=by show _↔_;unfold TwAt;rw[ha1,hb1,ha2,hb2]
                rw[← ha1]at m0
                rw[← hb1]at m1
                rw[← ha2]at l0
                rw[← hb2]at l1
                have i5:(k:Int)<(i:Int):=by omega
                have i6:(0:Int)≤(k:Int):=by omega
                have i7:(k:Int)<(mn:Int):=by omega
                have hkw2:IntKind.i64.wrap ((k:Int)+1)=(k:Int)+1:=by rw[IntKind.wrap_i64];omega
                clear ha1 hb1 ha2 hb2
                by_cases hab:a2=a1
                ·have HN6:=hide (HNE.out 6 (HE6.out HAll.out i hli k hlk (HTw.out.2 (.inl hab))))
                 have hab1:(a2.toList==a1.toList)=true:=by rw[hab];simp
                 clear hab HTw
                 go_wp2
                 go_quiet (fail)
                 go_wp2
                 go_ret
                 exact⟨6,HN6.out,rfl,HB9.out.trans ⟨rfl,rfl,rfl,leR _,fun _ _=>rfl⟩⟩
                ·have hab1:(a2.toList==a1.toList)=false:=by
                  rw[beq_eq_false_iff_ne]
                  exact fun hh=>hab (ba_ext hh)
                 by_cases hbb:b2=b1
                 ·have HN6:=hide (HNE.out 6 (HE6.out HAll.out i hli k hlk (HTw.out.2 (.inr hbb))))
                  have hb1:(b2==b1)=true:=by simpa using hbb
                  clear hab hbb HTw
                  go_wp2
                  go_quiet (fail)
                  go_wp2
                  go_ret
                  exact⟨6,HN6.out,rfl,HB9.out.trans ⟨rfl,rfl,rfl,leR _,fun _ _=>rfl⟩⟩
                 ·have hb1:(b2==b1)=false:=by simpa using hbb
                  have HNt:Hid (¬TwAt N k i):=fun hh=>by
                   rcases HTw.out.1 hh with h|h
                   ·exact hab h
                   ·exact hbb h
                  clear hab hbb HTw
                  go_wp2
                  go_quiet (fail)
                  go_wp2
                  go_roundw
                  case rel=>exact⟨k+1,by omega,by go_num,fun q hq=>by
                   by_cases hqk:q=k
                   ·rw[hqk];exact HNt.out
                   ·exact HQ.out q (by omega),HX9.out,HB9.out.trans ⟨rfl,rfl,rfl,leR _,fun _ _=>rfl⟩⟩
                  case measure=>simp[intOf];omega
               ·have i5:¬(k:Int)<(i:Int):=by omega
                have HN:Hid (NoTw N (i+1)):=fun p hp q hq=>by
                 by_cases hpi:p=i
                 ·rw[hpi]at hq ⊢;exact HQ.out q (by omega)
                 ·exact HT.out p (by omega) q hq
                go_wp2
                go_roundw
                case rel=>exact⟨i+1,by omega,by go_num,HN.out,HX9.out,HB9.out⟩
                case measure=>simp[intOf];omega
             ·have g1:¬(i:Int)<(mn:Int):=by omega
              have HNo:Hid (NoTw N mn):=by show NoTw _ _;have:=HT.out;rw[show i=mn by omega]at this;exact this
              clear HT HE6
              go_wp2
              go_loopw [12] (fun v wr=>∃(k:Nat),1≤k∧v=.int .i64 k∧Rises N k∧(k≤mn∨k=1)∧wr.heap[w.heap.size]? =some (patNO n g (some x) mn cn)∧Below w.heap.size w wr) (fun v _=>mn - (intOf v).toNat)
              case atStart=>exact⟨1,leR _,rfl,fun p h1 h2=>by omega,.inr rfl,HX8.out,HB8.out⟩
              case round=>
               obtain⟨k,hk1,rfl,hR,hkm,hx,hb⟩:=hrel
               obtain⟨w9,hw9⟩:=named wr
               subst hw9
               have HRr:=hide hR
               have HX9:=hide hx
               have HB9:=hide hb
               clear hR hx hb HX8 HB8 d9
               obtain⟨-, -,d9⟩:=patN_cells HX9.out
               by_cases hlk:k<mn
               ·obtain ⟨m0,m1⟩:=HCL.out w9 HB9.out k hlk
                obtain⟨l0,l1⟩:=HCL.out w9 HB9.out (k - 1) (by omega)
                have HNtw:Hid (nnx N (k - 1)≠nnx N k):=fun hh=>HNo.out k hlk (k - 1) (by omega) (.inr hh)
                obtain⟨p,hp⟩:=named (k - 1)
                have hpk:IntKind.i64.wrap ((k:Int) - 1)=(p:Int):=by rw[IntKind.wrap_i64];omega
                have i1:(0:Int)≤(p:Int):=by omega
                have i2:(p:Int)<(mn:Int):=by omega
                have i3:(0:Int)≤(k:Int):=by omega
                have i4:(k:Int)<(mn:Int):=by omega
                have hkw:IntKind.i64.wrap ((k:Int)+1)=(k:Int)+1:=by rw[IntKind.wrap_i64];omega
                obtain⟨b,hb⟩:=named (nnx N k)
                obtain⟨b2,hb2⟩:=named (nnx N (k - 1))
                have HBB:Hid (b2<b↔nnx N (k - 1)<nnx N k):=by show _↔_;rw[hb,hb2]
                have HBn:Hid (b2≠b):=by show _≠_;rw[hb,hb2];exact HNtw.out
                rw[← hb]at m1
                rw[← hb2]at l1
                rw[← hp]at l1
                clear m0 l0 hb hb2 hp HNtw
                by_cases hbb:b<b2
                ·have HN4:=hide (HNE.out 4 (HE4.out HAll.out HNo.out k hk1 hlk (by have h9:¬nnx N (k - 1)<nnx N k:=fun hh=>(by have:=HBB.out.2 hh;omega);omega)))
                 go_wp2
                 go_quiet (fail)
                 go_wp2
                 go_ret
                 exact⟨4,HN4.out,rfl,HB9.out.trans ⟨rfl,rfl,rfl,leR _,fun _ _=>rfl⟩⟩
                ·have hd:decide (b<b2)=false:=by simpa using hbb
                 have HRs:Hid (Rises N (k+1)):=fun q h1 h2=>by
                  by_cases hqk:q=k
                  ·rw[hqk];exact HBB.out.1 (by have:=HBn.out;omega)
                  ·exact HRr.out q h1 (by omega)
                 go_wp2
                 go_quiet (fail)
                 go_wp2
                 go_roundw
                 case rel=>exact⟨k+1,by omega,by go_num,HRs.out,by omega,HX9.out,HB9.out.trans ⟨rfl,rfl,rfl,leR _,fun _ _=>rfl⟩⟩
                 case measure=>simp[intOf];omega
               ·have i4:¬(k:Int)<(mn:Int):=by omega
                have HN0:=hide (HNE.out 0 (HE0.out HAll.out HNo.out (fun q h1 h2=>HRr.out q h1 (by omega))))
                go_wp2
                go_ret
                exact⟨0,HN0.out,rfl,HB9.out⟩
     ·have hE2:R=4:=by rw[hE,if_neg hgq]
      have bq:(g==q)=false:=by simp;omega
      have bq2:(g !=q)=true:=by simp;omega
      have HPz:=hide (HPe.out 4 (by decide) hE2)
      clear hE hgq hE2
      go_wp2
      go_ret
      exact⟨4,HPz.out,rfl,HB4.out⟩
 ·have HPz:=hide (HP2.out hlt)
  rw[show (!decide (cntA t<1001))=true by simp;omega]at HTG
  clear HP2 HP50 HPn0 HPe0 HRg hlt HFl
  go_enter func23,ntmps23
  go_wp2_with fail
  rw[← hw1]
  clear hw1
  refine HTG.out.mono ?_
  rintro e w2 ⟨rfl,hb2⟩
  have HB2:=hide (HB1.out.andT hb2)
  clear hb2 HTG HB1 HX1 d0 d1 d2 d3 d4 d5 d6 d7 d8 d9
  go_wp2
  go_ret
  exact⟨2,HPz.out,rfl,HB2.out⟩
end Go.Proofs.YtfnndcbjklppeaaGreatDoor
