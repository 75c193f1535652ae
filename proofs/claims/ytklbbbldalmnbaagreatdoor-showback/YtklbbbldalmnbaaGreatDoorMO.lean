import Derived.Test.YtklbbbldalmnbaaGreatDoorMN
import Derived.Test.YtklbbbldalmnbaaGreatDoorMK
set_option maxHeartbeats 8000000
set_option linter.unusedVariables false
set_option maxRecDepth 100000
open Go.Proofs.Tryz
namespace Go.Proofs.YtklbbbldalmnbaaGreatDoor.Pa
open Go.RowKit
open TR (Tr NV aL cz aG aV bS)
open TK (Mv bJ)
open Br (BE PS aw bC ez bI OR bm)
variable {w w' : World} {g : Nat} {v : Value} {l : List Int} {d : Int} {s s' : St} {nv av : Value}
theorem Hw:(Tryz.prog.info? 3).map (fun i=>(i.zero,i.size,i.bytes))=some (some (.int .i64 0),1,8):=by kernel_rfl
theorem Im{W:World}{B e k n:Nat}{u:Value}{xs:List Value}(h:W.ownsRow B e k u n xs){M i:Nat}{x:Value}(hM:u.ownBlock≠some M):(W.setCell ⟨M,i,none⟩ x).ownsRow B e k u n xs:=by
 refine⟨h.1,?_⟩
 rcases h.2 with h|⟨b,cap,cur,rfl,h3,hb,h4⟩
 ·exact .inl h
 ·exact .inr ⟨b,cap,cur,rfl,h3,by rw[Below.heap_setCell _ _ _ _ (by show b≠M;exact fun e=>hM (by rw[<- e];rfl))];exact hb,h4⟩
theorem EY(N:List Nm)(t:ByteArray):(match N.find? (fun m=>m.1.toList==t.toList)with|some m=>m.2|none=>0)=(eL N t).getD 0:=by
 unfold eL
 have:(fun m:Nm=>m.1.toList==t.toList)=fun n=>decide (n.1=t):=by
  funext m
  by_cases h:m.1=t
  ·simp[h]
  ·have :¬m.1.toList=t.toList:=fun e=>h (nE e)
   simp[h,this]
 rw[this]
 cases N.find? (fun n=>decide (n.1=t))with
 |none=>rfl
 |some m=>rfl
def Kg(R:Except BE (List Int))(w:World)(e:Ending)(w':World):Prop:=
 (∃ns u,R=.ok ns/\e=.returned u/\w'.ownsRow w.heap.size 3 1 u ns.length (dm ns)/\Below w.heap.size w w')\/(∃z a,R=.error (z,a)/\e=aw z a/\Below w.heap.size w w')
theorem Gl{names:List Nm}{gr j:Nat}{A:List Ag}(hj:j<A.length):di names gr (A.drop j)=(if (if A[j].name.toList=[]then A[j].num else(eL names A[j].name).getD 0)<1\/(gr:Int)<(if A[j].name.toList=[]then A[j].num else(eL names A[j].name).getD 0)then .error (5,(A[j].pos:Int))else match di names gr (A.drop (j+1))with
  | .error e=>.error e
  | .ok ns=>.ok ((if A[j].name.toList=[]then A[j].num else(eL names A[j].name).getD 0)::ns)):=by
 rw[List.drop_eq_getElem_cons hj]
 conv=>lhs;unfold di
 rw[<- EY]
 rfl
theorem oL(h:RB w g v l d s nv av)(hal:s.ay.length<=1000):Calls prog 51 #[.pointer (some ⟨g,0,none⟩)] w fun e w'=>Kg (di s.names s.aF s.ay) w e w':=by
 obtain⟨i0,hi0,hz0,hz1,hz2⟩:=info_parts Hw
 have hgw:=h.lt
 have HR:=I h
 have c16:=h.rd.2.2.2.2.2.2.2.2
 obtain⟨ao,ac,hav⟩:=ax h.jf
 obtain⟨m,hm⟩:∃m,m=s.ay.length:=⟨_,rfl⟩
 obtain⟨no,nc,hnv⟩:=h.names.shape
 obtain⟨nn,hnn⟩:∃nn,nn=s.names.length:=⟨_,rfl⟩
 obtain⟨gr,hgr⟩:∃gr,gr=s.aF:=⟨_,rfl⟩
 rw[<- hnn]at hnv
 rw[<- hm]at hav hal
 rw[hav]at c16
 have HM:=I hm
 have HC15:Hid (∀W,Below w.heap.size w W->W.cell? ⟨g,15,none⟩=some (.slice no nn nc)):=fun W hb=>by have:=(HR.o.ar hb).rd.2.2.2.2.2.2.2.1;rw[hnv]at this;exact this
 have HC14:Hid (∀W,Below w.heap.size w W->W.cell? ⟨g,14,none⟩=some (.int .i64 (gr:Nat))):=fun W hb=>by rw[hgr];exact(HR.o.ar hb).rd.2.2.2.2.2.2.1
 have HNames:Hid (∀W,Below w.heap.size w W->bW W (.slice no nn nc) s.names):=fun W hb=>by have:=(HR.o.ar hb).names;rw[hnv]at this;exact this
 have HCell:Hid (∀W,Below w.heap.size w W->∀j (hj:j<s.ay.length),∃b cap,ao=some ⟨b,0,none⟩/\ac=cap/\m<=cap/\W.cell? ⟨b,j*3,none⟩=some (.int .i64 s.ay[j].num)/\W.cell? ⟨b,j*3+1,none⟩=some (.string s.ay[j].name)/\W.cell? ⟨b,j*3+2,none⟩=some (.int .i64 (s.ay[j].pos:Nat))):=fun W hb j hj=>by
  have ho:=(HR.o.ar hb).jf
  rw[hav, <-HM.o]at ho
  rcases ho.2 with⟨_,h0⟩|⟨b,cap,cur,h1,_,h3,h4,_⟩
  ·have:=HM.o;omega
  ·cases h1
   obtain⟨a1,a2,a3⟩:=ou s.ay j hj
   rw[<- HM.o]at hj
   exact⟨b,ac,rfl,rfl,h4,(World.ownsRow.cellAt ho (j*3) (by omega)).trans a1,(World.ownsRow.cellAt ho (j*3+1) (by omega)).trans a2,(World.ownsRow.cellAt ho (j*3+2) (by omega)).trans a3⟩
 have HGr:=I hgr
 clear h hav hm hnv hnn hgr
 go_enter func51,ntmps51
 go_wp2
 go_loopw [3,11] (fun kv u wr=>∃(j:Nat) (acc:List Int),j<=m/\u=.int .i64 j/\acc.length=j/\di s.names s.aF s.ay=(match di s.names s.aF (s.ay.drop j)with
  | .error e=>.error e
  | .ok ns=>.ok (acc++ns))/\wr.ownsRow w.heap.size 3 1 kv acc.length (dm acc)/\Below w.heap.size w wr) (fun _ u _=>m - (intOf u).toNat)
 case atStart=>
  refine⟨0,[],Nat.zero_le _,rfl,rfl,?_,World.ownsRow_nil _ _ _ _,J _ _⟩
  rw[List.drop_zero]
  cases di s.names s.aF s.ay with
  |error e=>rfl
  |ok ns=>rfl
 case round=>
  obtain⟨j,acc,hj,rfl,hacc,hEq,ho,hb⟩:=hrel
  obtain⟨wq,hwq⟩:∃wq,wq=wr:=⟨_,rfl⟩
  subst hwq
  have HB:=I hb
  obtain⟨ko,kc,hkv⟩:=ax ho
  obtain⟨kn,hkn⟩:∃kn,kn=acc.length:=⟨_,rfl⟩
  rw[<- hkn]at hkv
  have HKn:=I hkn
  have hknj:kn<=1000:=by omega
  have HEq0:=I hEq
  have HO:=I ho
  rw[hkv]at HO |-
  have HAcc:=I hacc
  clear ho hb hkv hkn hEq hacc
  by_cases hlt:j<m
  ·have hjl:j<s.ay.length:=by have:=HM.o;omega
   have hat:=Gl (names:=s.names) (gr:=s.aF) hjl
   obtain⟨b,cap,hao,hc,hcap,e0,e1,e2⟩:=HCell.o wq HB.o j hjl
   obtain⟨num,hnum⟩:∃num,num=s.ay[j].num:=⟨_,rfl⟩
   obtain⟨nm,hnm⟩:∃nm,nm=s.ay[j].name:=⟨_,rfl⟩
   obtain⟨p,hp⟩:∃p,p=s.ay[j].pos:=⟨_,rfl⟩
   rw[<- hnum]at e0 hat
   rw[<- hnm]at e1 hat
   rw[<- hp]at e2 hat
   subst hao hc
   have q1:(j:Int)<(m:Int):=by omega
   have q2:(0:Int)<=(j:Int):=by omega
   have hjw:IntKind.i64.wrap ((j:Int)+1)=(j:Int)+1:=by rw[IntKind.wrap_i64];omega
   have HEq:Hid (di s.names s.aF s.ay=match (di s.names s.aF (s.ay.drop j))with
    | .error e=>.error e
    | .ok ns=>.ok (acc++ns)):=HEq0.o
   have HAt:=I hat
   clear hat hnum hnm hp HEq0
   go_upto_region 5 with fail
   obtain⟨w3,hw3⟩:∃w3,w3=wq.alloc (uG num nm p):=⟨_,rfl⟩
   obtain⟨M,hMe⟩:∃M,M=wq.heap.size:=⟨_,rfl⟩
   have hb3:Below wq.heap.size wq w3:=by rw[hw3];exact(J _ wq).alloc (U _) _
   have HM3:Hid (w3.heap[M]? =some (uG num nm p)):=by show _=_;rw[hw3,hMe];exact TK.aj _ _
   have HB3:=I (HB.o.trans (hb3.mono HB.o.size))
   have HB3q:=I hb3
   have HMw:Hid (w.heap.size<=M):=by show _<=_;rw[hMe];exact HB.o.size
   have HKM:Hid ((Value.slice ko kn kc).ownBlock≠some M):=fun e=>by have:=(HO.o.lt M e).2;omega
   have HO3:=I (cp HO.o hb3)
   have hgM:¬g=M:=by have:=HMw.o;omega
   have hMg:¬M=g:=fun e=>hgM e.symm
   simp only[uG]at hw3
   rw[<- hw3, <-hMe]
   obtain⟨k0,k1,k2,kf⟩:=dU HM3.o
   clear hw3 hMe hb3 e0 e1 e2
   by_cases hne:nm.toList=[]
   ·have hni:nm.toList.isEmpty=true:=by rw[hne];rfl
    have HNs:Hid (di s.names s.aF (s.ay.drop j)=if num<1\/(gr:Int)<num then .error (5,(p:Int))else match di s.names s.aF (s.ay.drop (j+1))with
     | .error e=>.error e
     | .ok ns=>.ok (num::ns)):=by show _=_;rw[HAt.o,HGr.o];simp only[if_pos hne]
    clear k0 k1 k2 kf HAt
    obtain⟨k0,k1,k2,kf⟩:=dU HM3.o
    obtain⟨k0,k1,k2,kf⟩:=dU HM3.o
    have r14:=HC14.o _ HB3.o
    by_cases hbad:num<1\/(gr:Int)<num
    ·have hE2:Hid (di s.names s.aF s.ay=.error (5,(p:Int))):=by show _=_;rw[HEq.o,HNs.o,if_pos hbad]
     have HG:=I (fun q=>aO 5 (p:Int) (w3.drewN q))
     simp only[aw]at HG
     have HBq:Hid (Below w.heap.size w w3):=HB3.o
     by_cases h1:num<1
     ·have hd1:(decide (num<1))=true:=by simpa using h1
      go_upto_region 7 with fail
      go_quiet (fail)
      go_wp2_with fail
      refine(HG.o _).mono ?_
      rintro e w7 ⟨rfl,rfl⟩
      go_wp2
      exact⟨rfl,.inr ⟨5,_,hE2.o,rfl,below_drewN HBq.o _⟩⟩
     ·have hd1:(decide (num<1))=false:=by simpa using h1
      have hd2:(decide ((gr:Int)<num))=true:=by simp;omega
      go_upto_region 7 with fail
      go_quiet (fail)
      go_wp2_with fail
      refine(HG.o _).mono ?_
      rintro e w7 ⟨rfl,rfl⟩
      go_wp2
      exact⟨rfl,.inr ⟨5,_,hE2.o,rfl,below_drewN HBq.o _⟩⟩
    ·have hd1:(decide (num<1))=false:=by simp;omega
     have hd2:(decide ((gr:Int)<num))=false:=by simp;omega
     have HEq2:Hid (di s.names s.aF s.ay=match di s.names s.aF (s.ay.drop (j+1))with
      | .error e=>.error e
      | .ok ns=>.ok ((acc++[num])++ns)):=by
      show _=_
      rw[HEq.o,HNs.o,if_neg hbad]
      cases di s.names s.aF (s.ay.drop (j+1))with
      |error e=>rfl
      |ok ns=>simp
     go_upto_region 7 with fail
     go_quiet (fail)
     obtain⟨w7,hw7⟩:∃w7,w7=w3.drewN nq:=⟨_,rfl⟩
     have hb7:Below w3.heap.size w3 w7:=by rw[hw7];exact⟨rfl,rfl,rfl,U _,fun _ _=>rfl⟩
     have HM7:Hid (w7.heap[M]? =some (uG num nm p)):=by show _=_;rw[hb7.block M (TR.lt_of_block HM3.o)];exact HM3.o
     have HB7:=I (HB3.o.trans (hb7.mono HB3.o.size))
     have HO7:=I (cp HO3.o hb7)
     obtain⟨e0,e1,e2,ef⟩:=dU HM7.o
     rw[<- hw7]
     have HLk:Hid (kn=acc.length):=HKn.o
     rw[<- HLk.o]at HO7
     have hB7:w.heap.size<=w7.heap.size:=HB7.o.size
     clear hw7 hb7 k0 k1 k2 kf r14
     go_wp2_with (at_builtin;refine wpList_append_own_at _ rfl _ _ 36 rfl w.heap.size 3 i0 (.int .i64 0) 1 8 underlying36 hi0 hz0 hz1 hz2 rfl (by decide) _ _ _ rfl (HO7.o.alloc _) ⟨w7.heap.size,0,none⟩ 1 1 [.int .i64 num] rfl rfl (cell_one_new _ _ _) (by simp[Value.oneCell']) (by unfold maxLen;omega) (by omega) (by simp;omega) ?_)
     intro v' w8 hown' hgrow _ _
     have HO8:Hid (w8.ownsRow w.heap.size 3 1 v' (acc++[num]).length (dm (acc++[num]))):=by
      show World.ownsRow _ _ _ _ _ _ _
      rw[List.length_append, <-HLk.o,show dm (acc++[num])=dm acc++[.int .i64 num]from by simp[dm]]
      exact hown'
     have HB8:Hid (Below w.heap.size w w8):=(HB7.o.alloc HB7.o.size _).grown hgrow (by have:=HB7.o.size;simp;omega) (fun k hk=>(HO7.o.lt k hk).1)
     obtain⟨vo,vc,hv8⟩:=ax hown'
     rw[hv8]at HO8 |-
     clear hown' hgrow hv8 e0 e1 e2 ef
     go_wp2
     go_roundw
     case rel=>exact⟨j+1,acc++[num],by omega,by go_num,by simp only[List.length_append,List.length_singleton];have h9:=HAcc.o;omega,HEq2.o,HO8.o,HB8.o⟩
     case measure=>simp[intOf];omega
   ·have hni:nm.toList.isEmpty=false:=by cases hh:nm.toList with
     |nil=>exact absurd hh hne
     |cons _ _=>rfl
    obtain⟨n1,hn1⟩:∃n1,n1=(eL s.names nm).getD 0:=⟨_,rfl⟩
    obtain⟨o1,ho1⟩:∃o1,o1=(eL s.names nm).isSome:=⟨_,rfl⟩
    have HNs:Hid (di s.names s.aF (s.ay.drop j)=if n1<1\/(gr:Int)<n1 then .error (5,(p:Int))else match di s.names s.aF (s.ay.drop (j+1))with
     | .error e=>.error e
     | .ok ns=>.ok (n1::ns)):=by show _=_;rw[HAt.o,HGr.o,hn1];simp only[if_neg hne]
    have HI:Hid (∀W,Below w.heap.size w W->Calls prog 19 #[.slice no nn nc,.string nm] W fun e w'=>e=.returned (.tuple #[.int .i64 n1,.bool o1])/\Below W.heap.size W w'):=fun W hb=>by rw[hn1,ho1];exact jR _ s.names nm W (HNames.o W hb)
    clear hn1 ho1 HAt
    go_upto_region 6 with fail
    obtain⟨wp,hwp⟩:∃wp,wp=w3:=⟨_,rfl⟩
    have HS:Hid (Below w.heap.size w w3.drew/\∃z,w3.drew.heap[M]? =some (uG z nm p)):=⟨HB3.o.trans ⟨rfl,rfl,rfl,U _,fun _ _=>rfl⟩,num,HM3.o⟩
    have HMd:Hid (w3.drew.heap[M]? =some (uG num nm p)):=HM3.o
    have HMl:Hid (M<w3.drew.heap.size):=TR.lt_of_block HM3.o
    have HBd:Hid (Below wq.heap.size wq w3.drew):=⟨(HB3q.o).os,(HB3q.o).tape,(HB3q.o).output,(HB3q.o).size,(HB3q.o).block⟩
    clear hwp k0 k1 k2 kf
    refine wp_region_held (S:=fun w'=>Below w.heap.size w w'/\∃z,w'.heap[M]? =some (uG z nm p)) (by kernel_rfl) ?_
    change wpAnyH _ _ _ _ _ _ _ _ (World.drew _)
    refine wpAnyH_take (i:=0) (v:=.pointer (some ⟨g,0,none⟩)) rfl (by kernel_rfl) (by kernel_rfl) (by kernel_rfl) (fun _ _ _ h=>h) (Or.inl ⟨by kernel_rfl,fun w' hS=>?_⟩) HS.o ?_
    ·go_simp
    refine wpAnyH_take (i:=1) (v:=.pointer (some ⟨g,0,none⟩)) rfl (by kernel_rfl) (by kernel_rfl) (by kernel_rfl) (fun _ _ _ h=>h) (Or.inl ⟨by kernel_rfl,fun w' hS=>?_⟩) HS.o ?_
    ·go_simp
    refine wpAnyH_take (i:=2) (v:=.pointer (some ⟨g,15,none⟩)) rfl (by kernel_rfl) (by kernel_rfl) (by kernel_rfl) (fun _ _ _ h=>h) (Or.inl ⟨by kernel_rfl,fun w' hS=>?_⟩) HS.o ?_
    ·go_simp
    refine wpAnyH_take (i:=3) (v:=.slice no nn nc) rfl (by kernel_rfl) (by kernel_rfl) (by kernel_rfl) (fun _ _ _ h=>h) (Or.inl ⟨by kernel_rfl,fun w' hS=>?_⟩) HS.o ?_
    ·(obtain⟨yb,z9,y9⟩:=hS;obtain⟨k0,k1,k2,kf⟩:=dU y9;have k15:=HC15.o _ yb;go_simp)
    refine wpAnyH_take (i:=4) (v:=.pointer (some ⟨M,1,none⟩)) rfl (by kernel_rfl) (by kernel_rfl) (by kernel_rfl) (fun _ _ _ h=>h) (Or.inl ⟨by kernel_rfl,fun w' hS=>?_⟩) HS.o ?_
    ·go_simp
    refine wpAnyH_take (i:=5) (v:=.string nm) rfl (by kernel_rfl) (by kernel_rfl) (by kernel_rfl) (fun _ _ _ h=>h) (Or.inl ⟨by kernel_rfl,fun w' hS=>?_⟩) HS.o ?_
    ·(obtain⟨yb,z9,y9⟩:=hS;obtain⟨k0,k1,k2,kf⟩:=dU y9;have k15:=HC15.o _ yb;go_simp)
    refine wpAnyH_ready (rs:=[6]) (by kernel_rfl) (by simp) ?_
    refine AllReadyH.cons rfl (fun K hK=>?_) AllReadyH.nil
    go_simp
    refine(HI.o _ HS.o.1).mono ?_
    rintro e w5 ⟨rfl,hb5⟩
    have hS5:Below w.heap.size w w5/\∃z,w5.heap[M]? =some (uG z nm p):=⟨HS.o.1.trans (hb5.mono HS.o.1.size),num,by rw[hb5.block M HMl.o];exact HMd.o⟩
    refine hK.out _ _ hS5 (fun _=>?_)
    clear hK K
    refine wpAnyH_take (i:=7) (v:=.tuple #[.int .i64 n1,.bool o1]) rfl (by kernel_rfl) (by kernel_rfl) (by kernel_rfl) (fun _ _ _ h=>h) (Or.inl ⟨by kernel_rfl,fun w' hS=>?_⟩) hS5 ?_
    ·go_simp
    refine wpAnyH_take (i:=8) (v:=.int .i64 n1) rfl (by kernel_rfl) (by kernel_rfl) (by kernel_rfl) (fun _ _ _ h=>h) (Or.inl ⟨by kernel_rfl,fun w' hS=>?_⟩) hS5 ?_
    ·go_simp
    refine wpAnyH_take (i:=9) (v:=.bool o1) rfl (by kernel_rfl) (by kernel_rfl) (by kernel_rfl) (fun _ _ _ h=>h) (Or.inl ⟨by kernel_rfl,fun w' hS=>?_⟩) hS5 ?_
    ·go_simp
    refine wpAnyH_take (i:=10) (v:=.pointer (some ⟨M,0,none⟩)) rfl (by kernel_rfl) (by kernel_rfl) (by kernel_rfl) (fun _ _ _ h=>h) (Or.inl ⟨by kernel_rfl,fun w' hS=>?_⟩) hS5 ?_
    ·go_simp
    have hM5:w5.heap[M]? =some (uG num nm p):=by rw[hb5.block M HMl.o];exact HMd.o
    obtain⟨k0,k1,k2,kf⟩:=dU hM5
    refine wpAnyH_ready (rs:=[11]) (by kernel_rfl) (by simp) ?_
    refine AllReadyH.cons rfl (fun K hK=>?_) AllReadyH.nil
    go_simp
    have hM6:(w5.setCell ⟨M,0,none⟩ (.int .i64 n1)).heap[M]? =some (uG n1 nm p):=by rw[TK.bd hM5];rfl
    have hS6:Below w.heap.size w (w5.setCell ⟨M,0,none⟩ (.int .i64 n1))/\∃z,(w5.setCell ⟨M,0,none⟩ (.int .i64 n1)).heap[M]? =some (uG z nm p):=⟨hS5.1.setCell (p:=⟨M,0,none⟩) HMw.o _,n1,hM6⟩
    refine hK.out _ _ hS6 (fun _=>?_)
    clear hK K
    refine wpAnyH_done (by kernel_rfl) ?_ _
    obtain⟨w6,hw6⟩:∃w6,w6=w5.setCell ⟨M,0,none⟩ (.int .i64 n1):=⟨_,rfl⟩
    rw[<- hw6]at hM6 hS6 |-
    have HM6:=I hM6
    have HB6:=I hS6.1
    have HO6:Hid (w6.ownsRow (w.heap.size) 3 1 (.slice ko kn kc) acc.length (dm acc)):=by
     show World.ownsRow _ _ _ _ _ _ _
     rw[hw6]
     exact Im (cp (cp HO.o HBd.o) hb5) HKM.o
    clear hw6 hS6 hM6 hM5 hS5 hb5 k0 k1 k2 kf HI HS HMd
    obtain⟨k0,k1,k2,kf⟩:=dU HM6.o
    have r14:=HC14.o _ HB6.o
    by_cases hbad:n1<1\/(gr:Int)<n1
    ·have hE2:Hid (di s.names s.aF s.ay=.error (5,(p:Int))):=by show _=_;rw[HEq.o,HNs.o,if_pos hbad]
     have HG:=I (fun q=>aO 5 (p:Int) (w6.drewN q))
     simp only[aw]at HG
     have HBq:Hid (Below w.heap.size w w6):=HB6.o
     by_cases h1:n1<1
     ·have hd1:(decide (n1<1))=true:=by simpa using h1
      go_upto_region 7 with fail
      go_quiet (fail)
      go_wp2_with fail
      refine(HG.o _).mono ?_
      rintro e w7 ⟨rfl,rfl⟩
      go_wp2
      exact⟨rfl,.inr ⟨5,_,hE2.o,rfl,below_drewN HBq.o _⟩⟩
     ·have hd1:(decide (n1<1))=false:=by simpa using h1
      have hd2:(decide ((gr:Int)<n1))=true:=by simp;omega
      go_upto_region 7 with fail
      go_quiet (fail)
      go_wp2_with fail
      refine(HG.o _).mono ?_
      rintro e w7 ⟨rfl,rfl⟩
      go_wp2
      exact⟨rfl,.inr ⟨5,_,hE2.o,rfl,below_drewN HBq.o _⟩⟩
    ·have hd1:(decide (n1<1))=false:=by simp;omega
     have hd2:(decide ((gr:Int)<n1))=false:=by simp;omega
     have HEq2:Hid (di s.names s.aF s.ay=match di s.names s.aF (s.ay.drop (j+1))with
      | .error e=>.error e
      | .ok ns=>.ok ((acc++[n1])++ns)):=by
      show _=_
      rw[HEq.o,HNs.o,if_neg hbad]
      cases di s.names s.aF (s.ay.drop (j+1))with
      |error e=>rfl
      |ok ns=>simp
     go_upto_region 7 with fail
     go_quiet (fail)
     obtain⟨w7,hw7⟩:∃w7,w7=w6.drewN nq:=⟨_,rfl⟩
     have hb7:Below w6.heap.size w6 w7:=by rw[hw7];exact⟨rfl,rfl,rfl,U _,fun _ _=>rfl⟩
     have HM7:Hid (w7.heap[M]? =some (uG n1 nm p)):=by show _=_;rw[hb7.block M (TR.lt_of_block HM6.o)];exact HM6.o
     have HB7:=I (HB6.o.trans (hb7.mono HB6.o.size))
     have HO7:=I (cp HO6.o hb7)
     obtain⟨e0,e1,e2,ef⟩:=dU HM7.o
     rw[<- hw7]
     have HLk:Hid (kn=acc.length):=HKn.o
     rw[<- HLk.o]at HO7
     have hB7:w.heap.size<=w7.heap.size:=HB7.o.size
     clear hw7 hb7 k0 k1 k2 kf r14
     go_wp2_with (at_builtin;refine wpList_append_own_at _ rfl _ _ 36 rfl w.heap.size 3 i0 (.int .i64 0) 1 8 underlying36 hi0 hz0 hz1 hz2 rfl (by decide) _ _ _ rfl (HO7.o.alloc _) ⟨w7.heap.size,0,none⟩ 1 1 [.int .i64 n1] rfl rfl (cell_one_new _ _ _) (by simp[Value.oneCell']) (by unfold maxLen;omega) (by omega) (by simp;omega) ?_)
     intro v' w8 hown' hgrow _ _
     have HO8:Hid (w8.ownsRow w.heap.size 3 1 v' (acc++[n1]).length (dm (acc++[n1]))):=by
      show World.ownsRow _ _ _ _ _ _ _
      rw[List.length_append, <-HLk.o,show dm (acc++[n1])=dm acc++[.int .i64 n1]from by simp[dm]]
      exact hown'
     have HB8:Hid (Below w.heap.size w w8):=(HB7.o.alloc HB7.o.size _).grown hgrow (by have:=HB7.o.size;simp;omega) (fun k hk=>(HO7.o.lt k hk).1)
     obtain⟨vo,vc,hv8⟩:=ax hown'
     rw[hv8]at HO8 |-
     clear hown' hgrow hv8 e0 e1 e2 ef
     go_wp2
     go_roundw
     case rel=>exact⟨j+1,acc++[n1],by omega,by go_num,by simp only[List.length_append,List.length_singleton];have h9:=HAcc.o;omega,HEq2.o,HO8.o,HB8.o⟩
     case measure=>simp[intOf];omega
  ·have hjm:j=m:=by omega
   have hE2:Hid (di s.names s.aF s.ay=.ok acc):=by show _=_;rw[HEq0.o,hjm,HM.o,List.drop_length];simp[di]
   have q1:¬(j:Int)<(m:Int):=by omega
   go_wp2
   go_ret
   exact .inl ⟨acc,_,hE2.o,rfl,HO.o,HB.o⟩
variable {w w' : World}
def oR(ns:List Int)(k x:Int):Int:=if k=18 then ns.getD x.toNat 0 else x
def kJ(ns:List Int)(n:NV):NV:={ n with num:=oR ns n.kind n.num }
def gk(ns:List Int)(p:Pc):Pc:=⟨kJ ns p.nv,bq ns p.tr,p.lo,p.hi⟩
theorem oC(ns:List Int):∀ts:List Tr,bq.pr ns ts=ts.map (bq ns)
 |[]=>rfl
 |t::ts=>by unfold bq.pr;rw[oC ns ts];rfl
theorem dV(ns:List Int)(k n a b c:Int)(f:Bool)(S:RL)(ks:List Tr):bq ns (.mk k n a b c f S ks)=.mk k (oR ns k n) a b c f S (ks.map (bq ns)):=by
 unfold bq
 rw[oC]
 rfl
structure rz(lo hi ab:Nat)(W w':World):Prop where
 os:w'.os=W.os
 tape:w'.tape=W.tape
 output:w'.output=W.output
 size:W.heap.size<=w'.heap.size
 o:∀k,k<W.heap.size->k≠ab->¬(lo<=k/\k<hi)->w'.heap[k]? =W.heap[k]?
 Jc:∀(k:Nat) (cs:Array Value) (e:TypeId) (fr:Nat×Nat),W.heap[k]? =some (Obj.cells cs e fr)->e≠25->w'.heap[k]? =some (Obj.cells cs e fr)
theorem rz.refl(lo hi ab:Nat)(W:World):rz lo hi ab W W:=⟨rfl,rfl,rfl,U _,fun _ _ _ _=>rfl,fun _ _ _ _ h _=>h⟩
theorem rz.trans{lo hi ab:Nat}{W W1 W2:World}(h:rz lo hi ab W W1)(k:rz lo hi ab W1 W2):rz lo hi ab W W2:=
 ⟨k.os.trans h.os,k.tape.trans h.tape,k.output.trans h.output,Nat.le_trans h.size k.size,fun i h1 h2 h3=>(k.o i (Nat.lt_of_lt_of_le h1 h.size) h2 h3).trans (h.o i h1 h2 h3),fun i cs e fr hc he=>k.Jc i cs e fr (h.Jc i cs e fr hc he) he⟩
theorem rz.inner{lo hi ab lo' hi' b:Nat}{W W':World}(h:rz lo' hi' b W W')(h1:lo<=lo')(h2:hi'<=hi)(hb:lo<=b/\b<hi):rz lo hi ab W W':=
 ⟨h.os,h.tape,h.output,h.size,fun k hk hne hno=>h.o k hk (fun e=>hno (by omega)) (fun e=>hno (by omega)),h.Jc⟩
theorem iO{W W':World}{lo hi ab B e k n:Nat}{u:Value}{xs:List Value}(h:rz lo hi ab W W')(ho:W.ownsRow B e k u n xs)(he:e≠25):W'.ownsRow B e k u n xs:=by
 refine⟨ho.1,?_⟩
 rcases ho.2 with h2|⟨b,cap,cur,rfl,h3,hb,h4⟩
 ·exact .inl h2
 ·exact .inr ⟨b,cap,cur,rfl,h3,h.Jc b _ _ _ hb he,h4⟩
theorem GN{lo hi ab o:Nat}{W:World}{cur:Array Value}(hc:W.heap[ab]? =some (.cells cur 25 (0,0)))(u:Value):rz lo hi ab W (W.setCell ⟨ab,o,none⟩ u):=
 ⟨rfl,rfl,rfl,by simp[World.setCell],fun k _ hne _=>Below.heap_setCell _ _ _ _ hne,fun k cs e fr hk he=>by
  rw[Below.heap_setCell _ _ _ _ (fun h=>he (by have h':k=ab:=h;subst h';rw[hc]at hk;cases hk;rfl))]
  exact hk⟩
theorem Dc{cur:Array Value}{i:Nat}{u:Value}(h:cur[i]? =some u):cur.setIfInBounds i u=cur:=by
 apply Array.ext_getElem?
 intro j
 rw[Array.getElem?_setIfInBounds]
 split
 ·rename_i hij
  subst hij
  rw[h]
  have:=(Array.getElem?_eq_some_iff.1 h).1
  simp[this]
 ·rfl
theorem cell_of{W:World}{ab o:Nat}{cur:Array Value}{e:TypeId}{fr:Nat×Nat}(hc:W.heap[ab]? =some (.cells cur e fr)):W.cell? ⟨ab,o,none⟩=cur[o]? :=by
 simp[World.cell?,hc]
theorem GX(n:NV)(x:Int):(oy n).set 3 (.int .i64 x)=oy { n with num:=x }:=rfl
theorem pw:∀(ps:List Pc) (j:Nat) (hj:j<ps.length) (x:Int) (q:Pc),q.nv={ ps[j].nv with num:=x }->(bu ps).set (j*8+3) (.int .i64 x)=bu (ps.set j q)
 |p::ps,0,hj,x,q,hq=>by
  have hq':q.nv={ p.nv with num:=x }:=hq
  show(oy p.nv++bu ps).set 3 _=oy q.nv++bu ps
  rw[List.set_append_left _ _ (by rw[jQ];omega),GX,hq']
 |p::ps,j+1,hj,x,q,hq=>by
  have ih:=pw ps j (by simpa using hj) x q hq
  show(oy p.nv++bu ps).set _ _=oy p.nv++bu (ps.set j q)
  rw[List.set_append_right _ _ (by rw[jQ];omega),jQ, <-ih,show(j+1)*8+3 - 8=j*8+3 from by omega]
def gH(ns:List Int)(ps:List Pc)(j:Nat):List Pc:=(ps.take j).map (gk ns)++ps.drop j
theorem vY(ns:List Int)(ps:List Pc):gH ns ps 0=ps:=by simp[gH]
theorem zJ(ns:List Int)(ps:List Pc):gH ns ps ps.length=ps.map (gk ns):=by simp[gH]
theorem iM(ns:List Int)(ps:List Pc)(j:Nat):(gH ns ps j).length=ps.length:=by
 unfold gH
 rw[List.length_append,List.length_map,List.length_take,List.length_drop]
 omega
theorem pk(ns:List Int)(ps:List Pc)(j:Nat)(hj:j<ps.length)(h:j<(gH ns ps j).length):(gH ns ps j)[j]=ps[j]:=by
 have h1:(gH ns ps j)[j]? =some ps[j]:=by
  unfold gH
  have hl:((ps.take j).map (gk ns)).length=j:=by rw[List.length_map,List.length_take];omega
  rw[List.getElem?_append_right (by omega),hl,Nat.sub_self,List.getElem?_drop,Nat.add_zero,List.getElem?_eq_getElem hj]
 exact Option.some.inj ((List.getElem?_eq_getElem h).symm.trans h1)
theorem uI(ns:List Int)(ps:List Pc)(j:Nat)(hj:j<ps.length):gH ns ps (j+1)=(gH ns ps j).set j (gk ns ps[j]):=by
 unfold gH
 have hl:((ps.take j).map (gk ns)).length=j:=by rw[List.length_map,List.length_take];omega
 rw[List.set_append_right _ _ (by omega),hl,Nat.sub_self,List.drop_eq_getElem_cons hj,List.set_cons_zero,List.take_add_one,List.getElem?_eq_getElem hj,List.map_append]
 simp
theorem xg{W W':World}{B g cap:Nat}{ps:List Pc}{j:Nat}{cur:Array Value}(ho:W.ownsRow B 25 8 (.slice (some ⟨g,0,none⟩) ps.length cap) ps.length (bu ps))(hc:W.heap[g]? =some (.cells cur 25 (0,0)))(hj:j<ps.length){x:Int}{q:Pc}(hq:q.nv={ ps[j].nv with num:=x })(hc':W'.heap[g]? =some (.cells (cur.setIfInBounds (j*8+3) (.int .i64 x)) 25 (0,0))):W'.ownsRow B 25 8 (.slice (some ⟨g,0,none⟩) (ps.set j q).length cap) (ps.set j q).length (bu (ps.set j q)):=by
 rcases ho.2 with⟨h1,_⟩|⟨g',cap',cur',h1,h2,h3,h4,h5,h6,h7⟩
 ·cases h1
 ·cases h1
  rw[h3]at hc
  cases hc
  rw[List.length_set]
  refine⟨by rw[l7,List.length_set],.inr ⟨g,cap,_,rfl,h2,hc',h4,h5,by rw[Array.size_setIfInBounds];exact h6,?_⟩⟩
  rw[Array.toList_setIfInBounds, <-pw ps j hj x q hq, <-h7,List.take_set]
theorem AD{w0:World}{lo hi:Nat}{n:NV}{t:Tr}(hN:bG w0 lo hi n t)(ns:List Int):jZ ns.length t->hi<=w0.heap.size->∀(W:World) (ab o:Nat) (cur:Array Value) (nv:Value) (B:Nat),hi<=W.heap.size->(∀k,lo<=k->k<hi->W.heap[k]? =w0.heap[k]?)->W.heap[ab]? =some (.cells cur 25 (0,0))->aL W ⟨ab,o,none⟩ n->¬(lo<=ab/\ab<hi)->W.ownsRow B 3 1 nv ns.length (dm ns)->ns.length<=1000->
  Calls prog 50 #[.pointer (some ⟨ab,o,none⟩),nv] W fun e w'=>e=.returned (.tuple #[])/\w'.heap[ab]? =some (.cells (cur.setIfInBounds (o+3) (.int .i64 (oR ns n.kind n.num))) 25 (0,0))/\bG w' lo hi (kJ ns n) (bq ns t)/\rz lo hi ab W w':=by
 induction hN with
 |mk lo hi n S ps hs hk hne h ih=>
  intro hag hhi W ab o cur nv B hWz hW hcur hcl hab hnv hns
  obtain⟨hag1,hag2⟩:(n.kind=18->0<=n.num/\n.num<(ns.length:Int))/\∀u∈ps.map Pc.tr,jZ ns.length u:=by cases hag with|mk _ _ _ _ _ _ _ _ a b=>exact⟨a,b⟩
  obtain⟨nvo,nvc,rfl⟩:=ax hnv
  obtain⟨x,hx⟩:∃x,x=oR ns n.kind n.num:=⟨_,rfl⟩
  have hcell:∀i,W.cell? ⟨ab,i,none⟩=cur[i]? :=fun i=>cell_of hcur
  have hfrz:∀i,W.frozen? ⟨ab,i,none⟩=false:=fun i=>by simp[World.frozen?,hcur]
  have d0:=hcl.c0
  have d2:=hcl.c2
  have d3:=hcl.c3
  simp only at d0 d2 d3
  have HNVo:=I hnv
  have HWz:Hid (hi<=W.heap.size):=hWz
  rw[<- hx]
  by_cases k18:n.kind=18
  ·obtain ⟨h18a,h18b⟩:=hag1 k18
   obtain⟨y,hy⟩:∃y:Nat,n.num=(y:Int):=⟨n.num.toNat,by omega⟩
   have hyl:y<ns.length:=by omega
   have hxv:x=ns[y]:=by
    rw[hx]
    unfold oR
    rw[if_pos k18,hy]
    simp[List.getD_eq_getElem?_getD,List.getElem?_eq_getElem hyl]
   obtain⟨W1,hW1⟩:∃W1,W1=W.setCell ⟨ab,o+3,none⟩ (.int .i64 x):=⟨_,rfl⟩
   have hcur1:W1.heap[ab]? =some (.cells (cur.setIfInBounds (o+3) (.int .i64 x)) 25 (0,0)):=by rw[hW1];exact TK.bd hcur _ _
   have hfr1:rz lo hi ab W W1:=by rw[hW1];exact GN hcur _
   have hkeep1:∀k,k≠ab->W1.heap[k]? =W.heap[k]? :=fun k hk'=>by rw[hW1];exact Below.heap_setCell _ _ _ _ hk'
   have K2:W1.cell? ⟨ab,o+2,none⟩=some (.slice n.ka n.kl n.kc):=by
    rw[cell_of hcur1,Array.getElem?_setIfInBounds_ne (by omega), <-hcell]
    exact d2
   obtain⟨ng,ncap,hnvv,hng⟩:=ju hnv (by omega)
   have en1:nvo=some ⟨ng,0,none⟩:=by injection hnvv
   have en2:nvc=ncap:=by injection hnvv
   subst en1 en2
   have hnc:W.cell? ⟨ng,y,none⟩=some (.int .i64 x):=by
    rw[World.ownsRow.cellAt hnv y (by omega),hxv]
    simp[dm,List.getElem?_eq_getElem hyl]
   have hncl:ns.length<=nvc:=by
    rcases hnv.2 with⟨h1,h2⟩|⟨b',cap',cb',h1,h2,h3,h4,_⟩
    ·omega
    ·cases h1;exact h4
   rw[hy]at d3
   rw[k18]at d0
   have q1:(y:Int)<(ns.length:Int):=by omega
   have q2:(0:Int)<=(y:Int):=by omega
   have HNy:=I hy
   have f3:=hfrz (o+3)
   have HX:=I hx
   clear hnvv hy hxv h18a h18b k18 hx hcell hfrz
   go_enter func50,ntmps50
   go_upto_region 2 with fail
   rw[<- hW1]
   clear hW1 d0 d2 d3 hnc
   obtain⟨m,hm⟩:∃m,m=ps.length:=⟨_,rfl⟩
   have hkl:n.kl=m:=by
    have ho:=hk.own
    rcases ho.2 with⟨h1,h2⟩|⟨b,cap,cur',h1,_⟩
    ·have e:n.kl=0:=by injection h1
     omega
    ·have e:n.kl=ps.length:=by injection h1
     omega
   have hmx:m<=9223372036854775807:=by
    have ho:=hk.own
    rcases ho.2 with⟨h1,h2⟩|⟨b,cap,cur',h1,h2,h3,h4,h5,_⟩
    ·omega
    ·unfold maxLen at h5;omega
   have hW1k:∀k,lo<=k->k<hi->W1.heap[k]? =w0.heap[k]? :=fun k h1 h2=>(hkeep1 k (fun e=>hab (by omega))).trans (hW k h1 h2)
   have HR0:Hid (W1.ownsRow lo 25 8 (.slice n.ka n.kl n.kc) ps.length (bu (gH ns ps 0))):=by
    show World.ownsRow _ _ _ _ _ _ _
    rw[vY]
    exact(hk.ar (br.bz hW1k)).own
   have HW1k:=I hW1k
   have HIH:=I ih
   have HK:=I hk
   have HS:=I hs
   have HH:=I h
   have HNE:=I hne
   have HAB:=I hab
   have HAG2:=I hag2
   have HHI:=I hhi
   have HF1:=I hfr1
   have HC1:=I hcur1
   have HM:=I hm
   have HNS:=I hns
   have HNV1:=I (iO hfr1 hnv (by decide))
   have HKP:=I hkeep1
   have HW:=I hW
   rw[hkl]at K2 HR0
   have HKl:=I hkl
   clear ih hk hs h hne hab hag1 hag2 hhi hfr1 hm hnv hns hkeep1 hW hW1k hcur hcl hkl
   go_wp2
   go_loopw [25] (fun u wr=>∃j:Nat,j<=m/\u=.int .i64 j/\wr.heap[ab]? =some (.cells (cur.setIfInBounds (o+3) (.int .i64 x)) 25 (0,0))/\rz lo hi ab W wr/\wr.ownsRow lo 25 8 (.slice n.ka m n.kc) ps.length (bu (gH ns ps j))/\(∀i (hi:i<ps.length),i<j->bG wr ps[i].lo ps[i].hi (kJ ns ps[i].nv) (bq ns ps[i].tr))/\(∀i (hi:i<ps.length),j<=i->∀k,ps[i].lo<=k->k<ps[i].hi->wr.heap[k]? =w0.heap[k]?)) (fun u _=>m - (intOf u).toNat)
   case atStart=>exact⟨0,Nat.zero_le _,rfl,HC1.o,HF1.o,HR0.o,fun i _ hi0=>absurd hi0 (Nat.not_lt_zero _),fun i hi0 _ k h1 h2=>HW1k.o k (by have:=(HK.o.kV _ (List.getElem_mem hi0)).1;omega) (by have:=(HK.o.kV _ (List.getElem_mem hi0)).2.2;omega)⟩
   case round=>
    obtain⟨j,hj,rfl,hca,hfr,hro,hdone,hrest⟩:=hrel
    obtain⟨wq,hwq⟩:∃wq,wq=wr:=⟨_,rfl⟩
    subst hwq
    have HCA:=I hca
    have HFR:=I hfr
    have HRO:=I hro
    have HDN:=I hdone
    have HRS:=I hrest
    have k2:wq.cell? ⟨ab,o+2,none⟩=some (.slice n.ka m n.kc):=by rw[cell_of hca, <-cell_of HC1.o];exact K2
    clear hca hfr hro hdone hrest
    by_cases hlt:j<m
    ·have hjl:j<ps.length:=by have:=HM.o;omega
     have hmem:=List.getElem_mem hjl
     have hrng:=HK.o.kV ps[j] hmem
     have ho:=HRO.o
     obtain⟨b,cap,cb,hka,hcap,hcb,hlob⟩:∃b cap cb,n.ka=some ⟨b,0,none⟩/\n.kc=cap/\wq.heap[b]? =some (.cells cb 25 (0,0))/\lo<=b:=by
      rcases ho.2 with⟨h1,h2⟩|⟨b,cap,cb,h1,h2,h3,h4,_⟩
      ·omega
      ·exact⟨b,cap,cb,by injection h1,by injection h1,h3,h2⟩
     have hcapm:m<=n.kc:=by
      rcases ho.2 with⟨h1,h2⟩|⟨b',cap',cb',h1,h2,h3,h4,_⟩
      ·omega
      ·have e2:n.kc=cap':=by injection h1
       have:=HM.o
       omega
     have htop:=HK.o.top b (by rw[hka];rfl)
     have hbi:¬(ps[j].lo<=b/\b<ps[j].hi):=by have:=htop.2 ps[j] hmem;omega
     have ho2:wq.ownsRow lo 25 8 (.slice (some ⟨b,0,none⟩) (gH ns ps j).length n.kc) (gH ns ps j).length (bu (gH ns ps j)):=by rw[iM, <-HM.o, <-hka];rw[<- HM.o]at ho;exact ho
     have hcells:=eY ho2 (j:=j) (by rw[iM];exact hjl)
     rw[pk ns ps j hjl]at hcells
     have HC:=I (HIH.o ps[j] hmem (HAG2.o _ (List.mem_map.2 ⟨_,hmem,rfl⟩)) (by have:=HHI.o;omega) wq b (j*8) cb _ B (by have:=HFR.o.size;have:=HWz.o;omega) (HRS.o j hjl (U _)) hcb hcells hbi (iO HFR.o HNVo.o (by decide)) HNS.o)
     have HO2:=I ho2
     have HCB:=I hcb
     have HTOP:=I htop
     have HBI:=I hbi
     have HRNG:=I hrng
     have HLB:=I hlob
     have hjb:(j:Int)<(m:Int):=by omega
     have hj0:(0:Int)<=(j:Int):=by omega
     have hjw:IntKind.i64.wrap ((j:Int)+1)=(j:Int)+1:=by rw[IntKind.wrap_i64];omega
     rw[hka]at k2
     have HKA:=I hka
     clear ho ho2 hcells hcb hbi htop hrng hmem hlob hka hcap
     go_wp2_with fail
     refine HC.o.mono ?_
     rintro e w5 ⟨rfl,hb5,hn5,hf5⟩
     have e1:=HAB.o
     have e2:=HTOP.o.1
     have e3:=HLB.o
     have e4:=HRNG.o
     have HCA5:Hid (w5.heap[ab]? =some (.cells (cur.setIfInBounds (o+3) (.int .i64 x)) 25 (0,0))):=by show _=_;rw[hf5.o ab (TR.lt_of_block HCA.o) (fun e=>e1 (by omega)) (fun e=>e1 (by omega))];exact HCA.o
     have HFR5:Hid (rz lo hi ab W w5):=HFR.o.trans (hf5.inner e4.1 e4.2.2 ⟨e3,e2⟩)
     have HRO5:Hid (w5.ownsRow lo 25 8 (.slice n.ka m n.kc) ps.length (bu (gH ns ps (j+1)))):=by
      have h9:=xg HO2.o HCB.o (j:=j) (by rw[iM];exact hjl) (q:=gk ns ps[j]) (x:=oR ns ps[j].nv.kind ps[j].nv.num) (by rw[pk ns ps j hjl];rfl) hb5
      rw[<- uI ns ps j hjl,iM, <-HKA.o]at h9
      show World.ownsRow _ _ _ _ _ _ _
      rw[<- HM.o]at h9 |-
      exact h9
     have hsub:∀i (hi:i<ps.length) k,ps[i].lo<=k->k<ps[i].hi->k<wq.heap.size:=fun i hi' k h1 h2=>by
      have r1:=HK.o.kV ps[i] (List.getElem_mem hi')
      have r5:=HFR.o.size
      have r6:=HHI.o
      have r7:=HWz.o
      omega
     have hkp:∀i (hi:i<ps.length),i≠j->∀k,ps[i].lo<=k->k<ps[i].hi->w5.heap[k]? =wq.heap[k]? :=fun i hi' hij k h1 h2=>by
      have r1:=HK.o.kV ps[i] (List.getElem_mem hi')
      have r2:=HTOP.o.2 ps[i] (List.getElem_mem hi')
      have r3:ps[i].hi<=ps[j].lo\/ps[j].hi<=ps[i].lo:=by
       rcases Nat.lt_or_gt_of_ne hij with h3|h3
       ·exact .inl (List.pairwise_iff_getElem.1 HK.o.par i j hi' hjl h3)
       ·exact .inr (List.pairwise_iff_getElem.1 HK.o.par j i hjl hi' h3)
      exact hf5.o k (by have h7:=hsub i hi' k h1 h2;exact h7) (by omega) (by omega)
     have HDN5:Hid (∀i (hi:i<ps.length),i<j+1->bG w5 ps[i].lo ps[i].hi (kJ ns ps[i].nv) (bq ns ps[i].tr)):=fun i hi' hij=>by
      by_cases h9:i=j
      ·subst h9;exact hn5
      ·exact(HDN.o i hi' (by omega)).ar (br.bz (hkp i hi' h9))
     have HRS5:Hid (∀i (hi:i<ps.length),j+1<=i->∀k,ps[i].lo<=k->k<ps[i].hi->w5.heap[k]? =w0.heap[k]?):=fun i hi' hij k h1 h2=>(hkp i hi' (by omega) k h1 h2).trans (HRS.o i hi' (by omega) k h1 h2)
     clear hb5 hn5 hf5 hkp HC k2
     go_wp2
     go_roundw
     case rel=>exact⟨j+1,by omega,by go_num,HCA5.o,HFR5.o,HRO5.o,HDN5.o,HRS5.o⟩
     case measure=>simp[intOf];omega
    ·have hjm:j=m:=by omega
     have hjb:¬(j:Int)<(m:Int):=by omega
     go_wp2
     go_end0
     refine⟨rfl,HCA.o,?_,HFR.o⟩
     rw[dV]
     have hro:=HRO.o
     rw[hjm,HM.o,zJ]at hro
     have hlen:(ps.map (gk ns)).length=ps.length:=List.length_map ..
     have hset:oj wq lo hi (.slice n.sa n.sl n.sc) S:=by
      have h1:=HS.o.ar (br.bz fun k a b=>HW.o k a b)
      exact⟨iO HFR.o h1.own (by decide),h1.top⟩
     have hrow:mq wq lo hi (.slice n.ka n.kl n.kc) (ps.map (gk ns)):=by
      refine⟨by rw[hlen,HKl.o,HM.o];exact hro,fun k hk=>?_,fun p hp=>?_,?_⟩
      ·have h1:=HK.o.top k hk
       exact⟨h1.1,fun p hp=>by obtain⟨p',hp',rfl⟩:=List.mem_map.1 hp;exact h1.2 p' hp'⟩
      ·obtain ⟨p',hp',rfl⟩:=List.mem_map.1 hp
       exact HK.o.kV p' hp'
      ·exact List.pairwise_map.2 HK.o.par
     have hall:∀p∈ps.map (gk ns),bG wq p.lo p.hi p.nv p.tr:=fun p hp=>by
      obtain⟨p',hp',rfl⟩:=List.mem_map.1 hp
      obtain⟨i,hi',rfl⟩:=List.mem_iff_getElem.1 hp'
      exact HDN.o i hi' (by have:=HM.o;omega)
     have:=bG.mk lo hi (kJ ns n) S (ps.map (gk ns)) hset hrow (fun h9 h10=>HNE.o h9 (List.map_eq_nil_iff.1 h10)) hall
     rw[show (ps.map (gk ns)).map Pc.tr=(ps.map Pc.tr).map (bq ns)from by rw[List.map_map,List.map_map];rfl]at this
     exact this
  ·have q18:(n.kind==18)=false:=by simpa using k18
   have hxn:x=n.num:=by rw[hx];unfold oR;rw[if_neg k18]
   obtain⟨W1,hW1⟩:∃W1,W1=W:=⟨_,rfl⟩
   have hcur1:W1.heap[ab]? =some (.cells (cur.setIfInBounds (o+3) (.int .i64 x)) 25 (0,0)):=by
    rw[hW1,Dc (by rw[<- hcell,hxn];exact d3)]
    exact hcur
   have hfr1:rz lo hi ab W W1:=by rw[hW1];exact rz.refl _ _ _ _
   have hkeep1:∀k,k≠ab->W1.heap[k]? =W.heap[k]? :=fun k _=>by rw[hW1]
   have K2:W1.cell? ⟨ab,o+2,none⟩=some (.slice n.ka n.kl n.kc):=by rw[hW1];exact d2
   have HX:=I hx
   clear hxn hx hcell hfrz
   go_enter func50,ntmps50
   go_upto_region 2 with fail
   rw[<- hW1]
   clear hW1 d0 d2 d3 k18
   obtain⟨m,hm⟩:∃m,m=ps.length:=⟨_,rfl⟩
   have hkl:n.kl=m:=by
    have ho:=hk.own
    rcases ho.2 with⟨h1,h2⟩|⟨b,cap,cur',h1,_⟩
    ·have e:n.kl=0:=by injection h1
     omega
    ·have e:n.kl=ps.length:=by injection h1
     omega
   have hmx:m<=9223372036854775807:=by
    have ho:=hk.own
    rcases ho.2 with⟨h1,h2⟩|⟨b,cap,cur',h1,h2,h3,h4,h5,_⟩
    ·omega
    ·unfold maxLen at h5;omega
   have hW1k:∀k,lo<=k->k<hi->W1.heap[k]? =w0.heap[k]? :=fun k h1 h2=>(hkeep1 k (fun e=>hab (by omega))).trans (hW k h1 h2)
   have HR0:Hid (W1.ownsRow lo 25 8 (.slice n.ka n.kl n.kc) ps.length (bu (gH ns ps 0))):=by
    show World.ownsRow _ _ _ _ _ _ _
    rw[vY]
    exact(hk.ar (br.bz hW1k)).own
   have HW1k:=I hW1k
   have HIH:=I ih
   have HK:=I hk
   have HS:=I hs
   have HH:=I h
   have HNE:=I hne
   have HAB:=I hab
   have HAG2:=I hag2
   have HHI:=I hhi
   have HF1:=I hfr1
   have HC1:=I hcur1
   have HM:=I hm
   have HNS:=I hns
   have HNV1:=I (iO hfr1 hnv (by decide))
   have HKP:=I hkeep1
   have HW:=I hW
   rw[hkl]at K2 HR0
   have HKl:=I hkl
   clear ih hk hs h hne hab hag1 hag2 hhi hfr1 hm hnv hns hkeep1 hW hW1k hcur hcl hkl
   go_wp2
   go_loopw [25] (fun u wr=>∃j:Nat,j<=m/\u=.int .i64 j/\wr.heap[ab]? =some (.cells (cur.setIfInBounds (o+3) (.int .i64 x)) 25 (0,0))/\rz lo hi ab W wr/\wr.ownsRow lo 25 8 (.slice n.ka m n.kc) ps.length (bu (gH ns ps j))/\(∀i (hi:i<ps.length),i<j->bG wr ps[i].lo ps[i].hi (kJ ns ps[i].nv) (bq ns ps[i].tr))/\(∀i (hi:i<ps.length),j<=i->∀k,ps[i].lo<=k->k<ps[i].hi->wr.heap[k]? =w0.heap[k]?)) (fun u _=>m - (intOf u).toNat)
   case atStart=>exact⟨0,Nat.zero_le _,rfl,HC1.o,HF1.o,HR0.o,fun i _ hi0=>absurd hi0 (Nat.not_lt_zero _),fun i hi0 _ k h1 h2=>HW1k.o k (by have:=(HK.o.kV _ (List.getElem_mem hi0)).1;omega) (by have:=(HK.o.kV _ (List.getElem_mem hi0)).2.2;omega)⟩
   case round=>
    obtain⟨j,hj,rfl,hca,hfr,hro,hdone,hrest⟩:=hrel
    obtain⟨wq,hwq⟩:∃wq,wq=wr:=⟨_,rfl⟩
    subst hwq
    have HCA:=I hca
    have HFR:=I hfr
    have HRO:=I hro
    have HDN:=I hdone
    have HRS:=I hrest
    have k2:wq.cell? ⟨ab,o+2,none⟩=some (.slice n.ka m n.kc):=by rw[cell_of hca, <-cell_of HC1.o];exact K2
    clear hca hfr hro hdone hrest
    by_cases hlt:j<m
    ·have hjl:j<ps.length:=by have:=HM.o;omega
     have hmem:=List.getElem_mem hjl
     have hrng:=HK.o.kV ps[j] hmem
     have ho:=HRO.o
     obtain⟨b,cap,cb,hka,hcap,hcb,hlob⟩:∃b cap cb,n.ka=some ⟨b,0,none⟩/\n.kc=cap/\wq.heap[b]? =some (.cells cb 25 (0,0))/\lo<=b:=by
      rcases ho.2 with⟨h1,h2⟩|⟨b,cap,cb,h1,h2,h3,h4,_⟩
      ·omega
      ·exact⟨b,cap,cb,by injection h1,by injection h1,h3,h2⟩
     have hcapm:m<=n.kc:=by
      rcases ho.2 with⟨h1,h2⟩|⟨b',cap',cb',h1,h2,h3,h4,_⟩
      ·omega
      ·have e2:n.kc=cap':=by injection h1
       have:=HM.o
       omega
     have htop:=HK.o.top b (by rw[hka];rfl)
     have hbi:¬(ps[j].lo<=b/\b<ps[j].hi):=by have:=htop.2 ps[j] hmem;omega
     have ho2:wq.ownsRow lo 25 8 (.slice (some ⟨b,0,none⟩) (gH ns ps j).length n.kc) (gH ns ps j).length (bu (gH ns ps j)):=by rw[iM, <-HM.o, <-hka];rw[<- HM.o]at ho;exact ho
     have hcells:=eY ho2 (j:=j) (by rw[iM];exact hjl)
     rw[pk ns ps j hjl]at hcells
     have HC:=I (HIH.o ps[j] hmem (HAG2.o _ (List.mem_map.2 ⟨_,hmem,rfl⟩)) (by have:=HHI.o;omega) wq b (j*8) cb _ B (by have:=HFR.o.size;have:=HWz.o;omega) (HRS.o j hjl (U _)) hcb hcells hbi (iO HFR.o HNVo.o (by decide)) HNS.o)
     have HO2:=I ho2
     have HCB:=I hcb
     have HTOP:=I htop
     have HBI:=I hbi
     have HRNG:=I hrng
     have HLB:=I hlob
     have hjb:(j:Int)<(m:Int):=by omega
     have hj0:(0:Int)<=(j:Int):=by omega
     have hjw:IntKind.i64.wrap ((j:Int)+1)=(j:Int)+1:=by rw[IntKind.wrap_i64];omega
     rw[hka]at k2
     have HKA:=I hka
     clear ho ho2 hcells hcb hbi htop hrng hmem hlob hka hcap
     go_wp2_with fail
     refine HC.o.mono ?_
     rintro e w5 ⟨rfl,hb5,hn5,hf5⟩
     have e1:=HAB.o
     have e2:=HTOP.o.1
     have e3:=HLB.o
     have e4:=HRNG.o
     have HCA5:Hid (w5.heap[ab]? =some (.cells (cur.setIfInBounds (o+3) (.int .i64 x)) 25 (0,0))):=by show _=_;rw[hf5.o ab (TR.lt_of_block HCA.o) (fun e=>e1 (by omega)) (fun e=>e1 (by omega))];exact HCA.o
     have HFR5:Hid (rz lo hi ab W w5):=HFR.o.trans (hf5.inner e4.1 e4.2.2 ⟨e3,e2⟩)
     have HRO5:Hid (w5.ownsRow lo 25 8 (.slice n.ka m n.kc) ps.length (bu (gH ns ps (j+1)))):=by
      have h9:=xg HO2.o HCB.o (j:=j) (by rw[iM];exact hjl) (q:=gk ns ps[j]) (x:=oR ns ps[j].nv.kind ps[j].nv.num) (by rw[pk ns ps j hjl];rfl) hb5
      rw[<- uI ns ps j hjl,iM, <-HKA.o]at h9
      show World.ownsRow _ _ _ _ _ _ _
      rw[<- HM.o]at h9 |-
      exact h9
     have hsub:∀i (hi:i<ps.length) k,ps[i].lo<=k->k<ps[i].hi->k<wq.heap.size:=fun i hi' k h1 h2=>by
      have r1:=HK.o.kV ps[i] (List.getElem_mem hi')
      have r5:=HFR.o.size
      have r6:=HHI.o
      have r7:=HWz.o
      omega
     have hkp:∀i (hi:i<ps.length),i≠j->∀k,ps[i].lo<=k->k<ps[i].hi->w5.heap[k]? =wq.heap[k]? :=fun i hi' hij k h1 h2=>by
      have r1:=HK.o.kV ps[i] (List.getElem_mem hi')
      have r2:=HTOP.o.2 ps[i] (List.getElem_mem hi')
      have r3:ps[i].hi<=ps[j].lo\/ps[j].hi<=ps[i].lo:=by
       rcases Nat.lt_or_gt_of_ne hij with h3|h3
       ·exact .inl (List.pairwise_iff_getElem.1 HK.o.par i j hi' hjl h3)
       ·exact .inr (List.pairwise_iff_getElem.1 HK.o.par j i hjl hi' h3)
      exact hf5.o k (by have h7:=hsub i hi' k h1 h2;exact h7) (by omega) (by omega)
     have HDN5:Hid (∀i (hi:i<ps.length),i<j+1->bG w5 ps[i].lo ps[i].hi (kJ ns ps[i].nv) (bq ns ps[i].tr)):=fun i hi' hij=>by
      by_cases h9:i=j
      ·subst h9;exact hn5
      ·exact(HDN.o i hi' (by omega)).ar (br.bz (hkp i hi' h9))
     have HRS5:Hid (∀i (hi:i<ps.length),j+1<=i->∀k,ps[i].lo<=k->k<ps[i].hi->w5.heap[k]? =w0.heap[k]?):=fun i hi' hij k h1 h2=>(hkp i hi' (by omega) k h1 h2).trans (HRS.o i hi' (by omega) k h1 h2)
     clear hb5 hn5 hf5 hkp HC k2
     go_wp2
     go_roundw
     case rel=>exact⟨j+1,by omega,by go_num,HCA5.o,HFR5.o,HRO5.o,HDN5.o,HRS5.o⟩
     case measure=>simp[intOf];omega
    ·have hjm:j=m:=by omega
     have hjb:¬(j:Int)<(m:Int):=by omega
     go_wp2
     go_end0
     refine⟨rfl,HCA.o,?_,HFR.o⟩
     rw[dV]
     have hro:=HRO.o
     rw[hjm,HM.o,zJ]at hro
     have hlen:(ps.map (gk ns)).length=ps.length:=List.length_map ..
     have hset:oj wq lo hi (.slice n.sa n.sl n.sc) S:=by
      have h1:=HS.o.ar (br.bz fun k a b=>HW.o k a b)
      exact⟨iO HFR.o h1.own (by decide),h1.top⟩
     have hrow:mq wq lo hi (.slice n.ka n.kl n.kc) (ps.map (gk ns)):=by
      refine⟨by rw[hlen,HKl.o,HM.o];exact hro,fun k hk=>?_,fun p hp=>?_,?_⟩
      ·have h1:=HK.o.top k hk
       exact⟨h1.1,fun p hp=>by obtain⟨p',hp',rfl⟩:=List.mem_map.1 hp;exact h1.2 p' hp'⟩
      ·obtain ⟨p',hp',rfl⟩:=List.mem_map.1 hp
       exact HK.o.kV p' hp'
      ·exact List.pairwise_map.2 HK.o.par
     have hall:∀p∈ps.map (gk ns),bG wq p.lo p.hi p.nv p.tr:=fun p hp=>by
      obtain⟨p',hp',rfl⟩:=List.mem_map.1 hp
      obtain⟨i,hi',rfl⟩:=List.mem_iff_getElem.1 hp'
      exact HDN.o i hi' (by have:=HM.o;omega)
     have:=bG.mk lo hi (kJ ns n) S (ps.map (gk ns)) hset hrow (fun h9 h10=>HNE.o h9 (List.map_eq_nil_iff.1 h10)) hall
     rw[show (ps.map (gk ns)).map Pc.tr=(ps.map Pc.tr).map (bq ns)from by rw[List.map_map,List.map_map];rfl]at this
     exact this
end Go.Proofs.YtklbbbldalmnbaaGreatDoor.Pa
