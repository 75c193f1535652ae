import Derived.Test.YtfnndcbjklppeaaGreatDoorUY2
import Derived.Deep.Cut
set_option linter.unusedVariables false
set_option maxHeartbeats 8000000
set_option maxRecDepth 100000
open Go.Proofs.Tryz
namespace Go.Proofs.YtfnndcbjklppeaaGreatDoor
open Go.RowKit
theorem ft_cells{w:World}{k:Nat}{f:FT}(h:w.heap[k]? =some (ftO f)):w.cell? ⟨k,0,none⟩=some (.int .i64 f.least)∧w.cell? ⟨k,1,none⟩=some (.int .i64 f.most)∧w.cell? ⟨k,2,none⟩=some (.bool f.plain)∧∀o,w.frozen? ⟨k,o,none⟩=false:=by
 refine⟨?_,?_,?_,fun o=>?_⟩<;>simp[World.cell?,World.frozen?,h]
abbrev fset(W:World)(N:Nat)(f:FT):World:=((W.setCell ⟨N,0,none⟩ (.int .i64 f.least)).setCell ⟨N,1,none⟩ (.int .i64 f.most)).setCell ⟨N,2,none⟩ (.bool f.plain)
theorem set_one'{w:World}{N:Nat}{cs:Array Value}{e:TypeId}{fr:Nat×Nat}(h:w.heap[N]? =some (.cells cs e fr))(o:Nat)(v:Value):(w.setCell ⟨N,o,none⟩ v).heap[N]? =some (.cells (cs.setIfInBounds o v) e fr):=by
 have hlt:=lt_of_block h
 have h':w.heap[N]=.cells cs e fr:=by simpa[Array.getElem?_eq_getElem hlt]using h
 show(w.heap.modify N _)[N]? =_
 rw[Array.getElem?_eq_getElem (by simpa using hlt),Array.getElem_modify_self,h']
 rfl
theorem fset_at{W:World}{N:Nat}{f0:FT}(h:W.heap[N]? =some (ftO f0))(f:FT):(fset W N f).heap[N]? =some (ftO f):=by
 rw[set_one' (set_one' (set_one' h _ _) _ _) _ _];rfl
theorem fset_other{W:World}{N b:Nat}{o:Obj}{f:FT}(h:W.heap[b]? =some o)(hb:b≠N):(fset W N f).heap[b]? =some o:=by
 simp only[fset]
 rw[Below.heap_setCell _ _ _ _ (fun e=>hb e),Below.heap_setCell _ _ _ _ (fun e=>hb e),Below.heap_setCell _ _ _ _ (fun e=>hb e)]
 exact h
theorem fset_below{B:Nat}{w W:World}(h:Below B w W){k:Nat}(hk:B≤k)(f:FT):Below B w (fset W k f):=((h.setCell (p:=⟨k,0,none⟩) hk _).setCell (p:=⟨k,1,none⟩) hk _).setCell (p:=⟨k,2,none⟩) hk _
theorem ret_f{f:Func}{tmps:Array Value}{W:World}{N s:Nat}{F:FT}{R:Ending→World→Prop}(hres:f.results=#[ResultVar.cell s 127])(h2:tmps[s]? =some (.pointer (some ⟨N,0,none⟩)))(q:W.heap[N]? =some (ftO F))(hF:R (.returned (ftV F)) W):bodyPost prog f R Exit.ret { tmps:=tmps,defers:=[] } W:=by
 obtain⟨m0,m1,m2,mf⟩:=ft_cells q
 refine bodyPost_ret (v:=ftV F) ?_ rfl hF
 simp[results,hres,go_sem,h2,m0,m1,m2]
theorem add_zero'(x:Addr):x.add 0=x:=by unfold Addr.add;split<;>simp_all
theorem add_eq'(x:Addr){k:Nat}(hk:k≠0):x.add k=⟨x.block,x.off+k,none⟩:=by unfold Addr.add;rw[if_neg hk]
theorem fold_head(op:FT→FT→FT)(ks:List Tr)(h:0<ks.length):foldF op (factL ks)=((factL ks).drop 1).foldl op (factT ks[0]):=by
 cases ks with
 |nil=>cases h
 |cons t ts=>rfl
theorem rowFacts_any{w0:World}{ks:List Tr}{vs:Nat→NV}{x:Addr}{kc:Nat}(hcl:∀j,j<ks.length→NCells w0 (x.add (j*8)) (vs j))(hl:2≤ks.length)(hkc:ks.length≤kc∧kc≤9223372036854775807)
  (ih:∀j (hj:j<ks.length) (W:World),Below w0.heap.size w0 W→Calls prog 64 #[nvV (vs j)] W fun e w'=>e=.returned (ftV (factT ks[j]))∧Below W.heap.size W w')
  (hok:∀j (hj:j<ks.length),okF (factT ks[j])) (w:World) (hw0:Below w0.heap.size w0 w):
  Calls prog 105 #[.slice (some x) ks.length kc] w fun e w'=>e=.returned (ftV (foldF addF (factL ks)))∧Below w.heap.size w w':=by
 have HIH:=hide ih
 have HOK:=hide hok
 have HCL:=hide hcl
 have HW0:=hide hw0
 obtain⟨n,hn⟩:=named ks.length
 have HN:=hide hn
 have hbR:Below w.heap.size w (w.alloc (ftO ⟨0,0,false⟩)):=allocB _ _
 obtain⟨w1,hw1⟩:=named (w.alloc (ftO ⟨0,0,false⟩))
 have hR1:w1.heap[w.heap.size]? =some (ftO ⟨0,0,false⟩):=by rw[hw1];exact at_new _ _
 rw[← hw1]at hbR
 have HB1:=hide hbR
 have HR1:=hide hR1
 have hB1':=hw0.andT hbR
 have HC0:=hide (ih 0 (by omega) w1 hB1')
 obtain⟨d0,d1,d2,d3,d4,d5,d6,d7⟩:NCells w1 x (vs 0):=by have:=(hcl 0 (by omega)).below hB1';simpa[add_zero']using this
 simp only[ftO]at hw1
 have HF0:Hid (foldF addF (factL ks)=((factL ks).drop 1).foldl addF (factT (ks[0]'(by omega)))):=fold_head addF ks (by omega)
 have hok0:=hok 0 (by omega)
 obtain⟨F0,hF0⟩:=named (factT (ks[0]'(by omega)))
 rw[← hF0]at HC0 HF0 hok0
 obtain⟨G,hG⟩:=named (foldF addF (factL ks))
 have HG:=hide hG
 rw[← hG, ←hn]
 rw[← hn]at hl hkc
 have hk1:¬kc=1:=by omega
 have hnl:(1:Int)≤(n:Int):=by omega
 have hnc:(n:Int)≤(kc:Int):=by omega
 have hn0:(0:Int)<(n:Int):=by omega
 obtain⟨l0,m0,p0⟩:=F0
 have HOk0:=hide hok0
 clear ih hok hcl hw0 hbR hR1 hB1' hF0 hG hn hok0
 go_enter func105,ntmps105
 go_upto_region 1 with fail
 rw[← hw1]
 clear hw1
 go_wp2_with fail
 refine HC0.out.mono ?_
 rintro e w2 ⟨rfl,hb2⟩
 have HB2:=hide (HB1.out.andT hb2)
 have HR2:=hide (show w2.heap[w.heap.size]? =some (ftO ⟨0,0,false⟩) by rw[hb2.block _ (lt_of_block HR1.out)];exact HR1.out)
 clear hb2 HC0 d0 d1 d2 d3 d4 d5 d6 d7
 obtain⟨w3,hw3⟩:=named (w2.alloc (ftO ⟨l0,m0,p0⟩))
 have HT3:Hid (w3.heap[w2.heap.size]? =some (ftO ⟨l0,m0,p0⟩)):=by show _=_;rw[hw3];exact at_new _ _
 have HR3:Hid (w3.heap[w.heap.size]? =some (ftO ⟨0,0,false⟩)):=by show _=_;rw[hw3];exact at_old HR2.out
 have HB3:Hid (Below w.heap.size w w3):=by show Below _ _ _;rw[hw3];exact HB2.out.alloc HB2.out.size _
 have hRT:Hid (w.heap.size≠w2.heap.size):=by have:=lt_of_block HR2.out;show _≠_;omega
 have hTB:Hid (w.heap.size≤w2.heap.size):=HB2.out.size
 obtain⟨T,hT⟩:=named w2.heap.size
 rw[← hT]at HT3 hRT hTB
 have HTq:=hide hT
 simp only[ftO]at hw3
 simp only[ftV]
 clear HR2 HB2 HB1 HR1 hT
 go_wp2
 rw[← hw3, ←HTq.out]
 clear hw3 HTq
 go_loopw [14] (fun t wr=>∃(j:Nat) (ac:FT),j+1≤n∧t=.int .i64 j∧foldF addF (factL ks)=((factL ks).drop (j+1)).foldl addF ac∧okF ac∧wr.heap[T]? =some (ftO ac)∧wr.heap[w.heap.size]? =some (ftO ⟨0,0,false⟩)∧Below w.heap.size w wr) (fun t _=>n - (intOf t).toNat)
 case atStart=>exact⟨0,⟨l0,m0,p0⟩,by omega,rfl,HF0.out,HOk0.out,HT3.out,HR3.out,HB3.out⟩
 case round=>
  obtain⟨j,ac,hj,rfl,hE,hoa,hT,hR,hb⟩:=hrel
  have HE:=hide hE
  have HOa:=hide hoa
  have HTr:=hide hT
  have HRr:=hide hR
  have HBr:=hide hb
  obtain⟨w4,hw4⟩:=named wr
  subst hw4
  clear hE hoa hT hR hb HT3 HR3 HB3
  by_cases hlt:j+1<n
  ·have hjl:j+1<ks.length:=by have:=HN.out;omega
   have e1:(j:Int)<(n:Int) - 1:=by omega
   have e2:(j:Int)<((n - 1:Nat):Int):=by omega
   have e0:(0:Int)≤(j:Int):=by omega
   have hB4':=HW0.out.andT HBr.out
   obtain⟨d0,d1,d2,d3,d4,d5,d6,d7⟩:NCells w4 ⟨x.block,x.off+8+j*8,none⟩ (vs (j+1)):=by
    have:=(HCL.out (j+1) hjl).below hB4'
    rw[add_eq' x (by omega),show x.off+(j+1)*8=x.off+8+j*8 from by omega]at this
    exact this
   have hB5':Below w4.heap.size w4 (w4.alloc (nvO (vs (j+1)))):=allocB _ _
   have HC:=hide (HIH.out (j+1) hjl (w4.alloc (nvO (vs (j+1)))) (hB4'.andT hB5'))
   obtain⟨w5,hw5⟩:=named (w4.alloc (nvO (vs (j+1))))
   have hbx:w5.heap[w4.heap.size]? =some (nvO (vs (j+1))):=by rw[hw5];exact at_new _ _
   rw[← hw5]at HC hB5'
   have HB5:=hide (HBr.out.andT hB5')
   have HT5:=hide (show w5.heap[T]? =some (ftO ac) by rw[hB5'.block _ (lt_of_block HTr.out)];exact HTr.out)
   have HR5:=hide (show w5.heap[w.heap.size]? =some (ftO ⟨0,0,false⟩) by rw[hB5'.block _ (lt_of_block HRr.out)];exact HRr.out)
   obtain⟨b0,b1,b2,b3,b4,b5,b6,b7⟩:=nv_cells hbx
   simp only[nvO]at hw5
   have hjw:IntKind.i64.wrap ((j:Int)+1)=(j:Int)+1:=by rw[IntKind.wrap_i64];omega
   have hoF:=HOK.out (j+1) hjl
   have HD:Hid ((factL ks).drop (j+1)=factT ks[j+1]::(factL ks).drop (j+2)):=by
    show _=_
    have h1:=factL_get ks (j+1) hjl
    have h2:j+1<(factL ks).length:=by rw[factL_len];exact hjl
    rw[List.drop_eq_getElem_cons h2]
    rw[List.getElem?_eq_getElem h2]at h1
    rw[Option.some.inj h1]
   obtain⟨F,hF⟩:=named (factT ks[j+1])
   rw[← hF]at HC hoF HD
   clear hF hB4' hB5' hbx HTr HRr HBr hjl
   have HOk2:=hide (addF_ok HOa.out hoF)
   obtain⟨al,am,ap⟩:=ac
   obtain⟨fl,fm,fp⟩:=F
   have hoa:=HOa.out
   unfold okF at hoa hoF
   simp only at hoa hoF
   obtain⟨f1,f2,f3,f4⟩:=hoF
   obtain⟨a1,a2,a3,a4⟩:=hoa
   go_wp2_with fail
   rw[← hw5]
   clear hw5
   refine HC.out.mono ?_
   rintro e w6 ⟨rfl,hb6⟩
   have HB6:=hide (HB5.out.andT hb6)
   have HT6:=hide (show w6.heap[T]? =some (ftO ⟨al,am,ap⟩) by rw[hb6.block _ (lt_of_block HT5.out)];exact HT5.out)
   have HR6:=hide (show w6.heap[w.heap.size]? =some (ftO ⟨0,0,false⟩) by rw[hb6.block _ (lt_of_block HR5.out)];exact HR5.out)
   clear hb6 HC HB5 HT5 HR5 b0 b1 b2 b3 b4 b5 b6 b7 d0 d1 d2 d3 d4 d5 d6 d7
   obtain⟨w7,hw7⟩:=named (w6.alloc (ftO ⟨fl,fm,fp⟩))
   have HU7:Hid (w7.heap[w6.heap.size]? =some (ftO ⟨fl,fm,fp⟩)):=by show _=_;rw[hw7];exact at_new _ _
   have HT7:Hid (w7.heap[T]? =some (ftO ⟨al,am,ap⟩)):=by show _=_;rw[hw7];exact at_old HT6.out
   have HR7:Hid (w7.heap[w.heap.size]? =some (ftO ⟨0,0,false⟩)):=by show _=_;rw[hw7];exact at_old HR6.out
   have HB7:Hid (Below w.heap.size w w7):=by show Below _ _ _;rw[hw7];exact HB6.out.alloc HB6.out.size _
   have hTU:T<w6.heap.size:=lt_of_block HT6.out
   obtain⟨U,hU⟩:=named w6.heap.size
   rw[← hU]at HU7 hTU
   have q1:¬T=U:=by omega
   have q2:¬U=T:=by omega
   have HUq:=hide hU
   simp only[ftO]at hw7
   obtain⟨t0,t1,t2,tf⟩:=ft_cells HT7.out
   obtain⟨u0,u1,u2,uf⟩:=ft_cells HU7.out
   simp only at t0 t1 t2 u0 u1 u2
   simp only[ftV]
   clear HT6 HR6 HB6 hU
   go_upto_region 6 with fail
   rw[← hw7, ←HUq.out]
   clear hw7 HUq
   have hlw:IntKind.i64.wrap (al+fl)=al+fl:=by rw[IntKind.wrap_i64];omega
   cases ap with
   |true=>
    go_wp2_with fail
    refine(leastTaken_any (al+fl) _).mono ?_
    rintro e w' ⟨rfl,rfl⟩
    go_wp2_with fail
    refine(mostAdded_any am fm _ a4 f4).mono ?_
    rintro e w' ⟨rfl,rfl⟩
    go_wp2
    have HT9:=hide (fset_at HT7.out (addF ⟨al,am,true⟩ ⟨fl,fm,fp⟩))
    have HR9:=hide (fset_other (f:=addF ⟨al,am,true⟩ ⟨fl,fm,fp⟩) HR7.out hRT.out)
    have HB9:=hide (fset_below HB7.out hTB.out (addF ⟨al,am,true⟩ ⟨fl,fm,fp⟩))
    have HNx:Hid (foldF addF (factL ks)=((factL ks).drop (j+1+1)).foldl addF (addF ⟨al,am,true⟩ ⟨fl,fm,fp⟩)):=by show _=_;rw[HE.out,HD.out];rfl
    go_roundw
    case rel=>exact⟨j+1,addF ⟨al,am,true⟩ ⟨fl,fm,fp⟩,by omega,by go_num,HNx.out,HOk2.out,HT9.out,HR9.out,HB9.out⟩
    case measure=>simp[intOf];omega
   |false=>
    go_wp2_with fail
    refine(leastTaken_any (al+fl) _).mono ?_
    rintro e w' ⟨rfl,rfl⟩
    go_wp2_with fail
    refine(mostAdded_any am fm _ a4 f4).mono ?_
    rintro e w' ⟨rfl,rfl⟩
    go_wp2
    have HT9:=hide (fset_at HT7.out (addF ⟨al,am,false⟩ ⟨fl,fm,fp⟩))
    have HR9:=hide (fset_other (f:=addF ⟨al,am,false⟩ ⟨fl,fm,fp⟩) HR7.out hRT.out)
    have HB9:=hide (fset_below HB7.out hTB.out (addF ⟨al,am,false⟩ ⟨fl,fm,fp⟩))
    have HNx:Hid (foldF addF (factL ks)=((factL ks).drop (j+1+1)).foldl addF (addF ⟨al,am,false⟩ ⟨fl,fm,fp⟩)):=by show _=_;rw[HE.out,HD.out];rfl
    go_roundw
    case rel=>exact⟨j+1,addF ⟨al,am,false⟩ ⟨fl,fm,fp⟩,by omega,by go_num,HNx.out,HOk2.out,HT9.out,HR9.out,HB9.out⟩
    case measure=>simp[intOf];omega
  ·have hjn:j+1=n:=by omega
   have e1:¬(j:Int)<(n:Int) - 1:=by omega
   have e2:¬(j:Int)<((n - 1:Nat):Int):=by omega
   have hG2:Hid (G=ac):=by
    show _=_
    rw[HG.out,HE.out,List.drop_eq_nil_of_le (by rw[factL_len];have:=HN.out;omega)];rfl
   obtain⟨t0,t1,t2,tf⟩:=ft_cells HTr.out
   obtain⟨r0,r1,r2,rf⟩:=ft_cells HRr.out
   clear hjn
   go_wp2
   exact ret_f (N:=w.heap.size) (F:=ac) rfl rfl (fset_at HRr.out ac) ⟨by rw[hG2.out],fset_below HBr.out (leR _) _⟩
theorem eitherFacts_any{w0:World}{ks:List Tr}{vs:Nat→NV}{x:Addr}{kc:Nat}(hcl:∀j,j<ks.length→NCells w0 (x.add (j*8)) (vs j))(hl:2≤ks.length)(hkc:ks.length≤kc∧kc≤9223372036854775807)
  (ih:∀j (hj:j<ks.length) (W:World),Below w0.heap.size w0 W→Calls prog 64 #[nvV (vs j)] W fun e w'=>e=.returned (ftV (factT ks[j]))∧Below W.heap.size W w')
  (hok:∀j (hj:j<ks.length),okF (factT ks[j])) (w:World) (hw0:Below w0.heap.size w0 w):
  Calls prog 106 #[.slice (some x) ks.length kc] w fun e w'=>e=.returned (ftV (foldF orF (factL ks)))∧Below w.heap.size w w':=by
 have HIH:=hide ih
 have HOK:=hide hok
 have HCL:=hide hcl
 have HW0:=hide hw0
 obtain⟨n,hn⟩:=named ks.length
 have HN:=hide hn
 have hbR:Below w.heap.size w (w.alloc (ftO ⟨0,0,false⟩)):=allocB _ _
 obtain⟨w1,hw1⟩:=named (w.alloc (ftO ⟨0,0,false⟩))
 have hR1:w1.heap[w.heap.size]? =some (ftO ⟨0,0,false⟩):=by rw[hw1];exact at_new _ _
 rw[← hw1]at hbR
 have HB1:=hide hbR
 have HR1:=hide hR1
 have hB1':=hw0.andT hbR
 have HC0:=hide (ih 0 (by omega) w1 hB1')
 obtain⟨d0,d1,d2,d3,d4,d5,d6,d7⟩:NCells w1 x (vs 0):=by have:=(hcl 0 (by omega)).below hB1';simpa[add_zero']using this
 simp only[ftO]at hw1
 have HF0:Hid (foldF orF (factL ks)=((factL ks).drop 1).foldl orF (factT (ks[0]'(by omega)))):=fold_head orF ks (by omega)
 have hok0:=hok 0 (by omega)
 obtain⟨F0,hF0⟩:=named (factT (ks[0]'(by omega)))
 rw[← hF0]at HC0 HF0 hok0
 obtain⟨G,hG⟩:=named (foldF orF (factL ks))
 have HG:=hide hG
 rw[← hG, ←hn]
 rw[← hn]at hl hkc
 have hk1:¬kc=1:=by omega
 have hnl:(1:Int)≤(n:Int):=by omega
 have hnc:(n:Int)≤(kc:Int):=by omega
 have hn0:(0:Int)<(n:Int):=by omega
 obtain⟨l0,m0,p0⟩:=F0
 have HOk0:=hide hok0
 clear ih hok hcl hw0 hbR hR1 hB1' hF0 hG hn hok0
 go_enter func106,ntmps106
 go_upto_region 1 with fail
 rw[← hw1]
 clear hw1
 go_wp2_with fail
 refine HC0.out.mono ?_
 rintro e w2 ⟨rfl,hb2⟩
 have HB2:=hide (HB1.out.andT hb2)
 have HR2:=hide (show w2.heap[w.heap.size]? =some (ftO ⟨0,0,false⟩) by rw[hb2.block _ (lt_of_block HR1.out)];exact HR1.out)
 clear hb2 HC0 d0 d1 d2 d3 d4 d5 d6 d7
 obtain⟨w3,hw3⟩:=named (w2.alloc (ftO ⟨l0,m0,p0⟩))
 have HT3:Hid (w3.heap[w2.heap.size]? =some (ftO ⟨l0,m0,p0⟩)):=by show _=_;rw[hw3];exact at_new _ _
 have HR3:Hid (w3.heap[w.heap.size]? =some (ftO ⟨0,0,false⟩)):=by show _=_;rw[hw3];exact at_old HR2.out
 have HB3:Hid (Below w.heap.size w w3):=by show Below _ _ _;rw[hw3];exact HB2.out.alloc HB2.out.size _
 have hRT:Hid (w.heap.size≠w2.heap.size):=by have:=lt_of_block HR2.out;show _≠_;omega
 have hTB:Hid (w.heap.size≤w2.heap.size):=HB2.out.size
 obtain⟨T,hT⟩:=named w2.heap.size
 rw[← hT]at HT3 hRT hTB
 have HTq:=hide hT
 simp only[ftO]at hw3
 simp only[ftV]
 clear HR2 HB2 HB1 HR1 hT
 go_wp2
 rw[← hw3, ←HTq.out]
 clear hw3 HTq
 go_loopw [14] (fun t wr=>∃(j:Nat) (ac:FT),j+1≤n∧t=.int .i64 j∧foldF orF (factL ks)=((factL ks).drop (j+1)).foldl orF ac∧okF ac∧wr.heap[T]? =some (ftO ac)∧wr.heap[w.heap.size]? =some (ftO ⟨0,0,false⟩)∧Below w.heap.size w wr) (fun t _=>n - (intOf t).toNat)
 case atStart=>exact⟨0,⟨l0,m0,p0⟩,by omega,rfl,HF0.out,HOk0.out,HT3.out,HR3.out,HB3.out⟩
 case round=>
  obtain⟨j,ac,hj,rfl,hE,hoa,hT,hR,hb⟩:=hrel
  have HE:=hide hE
  have HOa:=hide hoa
  have HTr:=hide hT
  have HRr:=hide hR
  have HBr:=hide hb
  obtain⟨w4,hw4⟩:=named wr
  subst hw4
  clear hE hoa hT hR hb HT3 HR3 HB3
  by_cases hlt:j+1<n
  ·have hjl:j+1<ks.length:=by have:=HN.out;omega
   have e1:(j:Int)<(n:Int) - 1:=by omega
   have e2:(j:Int)<((n - 1:Nat):Int):=by omega
   have e0:(0:Int)≤(j:Int):=by omega
   have hB4':=HW0.out.andT HBr.out
   obtain⟨d0,d1,d2,d3,d4,d5,d6,d7⟩:NCells w4 ⟨x.block,x.off+8+j*8,none⟩ (vs (j+1)):=by
    have:=(HCL.out (j+1) hjl).below hB4'
    rw[add_eq' x (by omega),show x.off+(j+1)*8=x.off+8+j*8 from by omega]at this
    exact this
   have hB5':Below w4.heap.size w4 (w4.alloc (nvO (vs (j+1)))):=allocB _ _
   have HC:=hide (HIH.out (j+1) hjl (w4.alloc (nvO (vs (j+1)))) (hB4'.andT hB5'))
   obtain⟨w5,hw5⟩:=named (w4.alloc (nvO (vs (j+1))))
   have hbx:w5.heap[w4.heap.size]? =some (nvO (vs (j+1))):=by rw[hw5];exact at_new _ _
   rw[← hw5]at HC hB5'
   have HB5:=hide (HBr.out.andT hB5')
   have HT5:=hide (show w5.heap[T]? =some (ftO ac) by rw[hB5'.block _ (lt_of_block HTr.out)];exact HTr.out)
   have HR5:=hide (show w5.heap[w.heap.size]? =some (ftO ⟨0,0,false⟩) by rw[hB5'.block _ (lt_of_block HRr.out)];exact HRr.out)
   obtain⟨b0,b1,b2,b3,b4,b5,b6,b7⟩:=nv_cells hbx
   simp only[nvO]at hw5
   have hjw:IntKind.i64.wrap ((j:Int)+1)=(j:Int)+1:=by rw[IntKind.wrap_i64];omega
   have hoF:=HOK.out (j+1) hjl
   have HD:Hid ((factL ks).drop (j+1)=factT ks[j+1]::(factL ks).drop (j+2)):=by
    show _=_
    have h1:=factL_get ks (j+1) hjl
    have h2:j+1<(factL ks).length:=by rw[factL_len];exact hjl
    rw[List.drop_eq_getElem_cons h2]
    rw[List.getElem?_eq_getElem h2]at h1
    rw[Option.some.inj h1]
   obtain⟨F,hF⟩:=named (factT ks[j+1])
   rw[← hF]at HC hoF HD
   clear hF hB4' hB5' hbx HTr HRr HBr hjl
   have HOk2:=hide (orF_ok HOa.out hoF)
   obtain⟨al,am,ap⟩:=ac
   obtain⟨fl,fm,fp⟩:=F
   have hoa:=HOa.out
   unfold okF at hoa hoF
   simp only at hoa hoF
   obtain⟨f1,f2,f3,f4⟩:=hoF
   obtain⟨a1,a2,a3,a4⟩:=hoa
   go_wp2_with fail
   rw[← hw5]
   clear hw5
   refine HC.out.mono ?_
   rintro e w6 ⟨rfl,hb6⟩
   have HB6:=hide (HB5.out.andT hb6)
   have HT6:=hide (show w6.heap[T]? =some (ftO ⟨al,am,ap⟩) by rw[hb6.block _ (lt_of_block HT5.out)];exact HT5.out)
   have HR6:=hide (show w6.heap[w.heap.size]? =some (ftO ⟨0,0,false⟩) by rw[hb6.block _ (lt_of_block HR5.out)];exact HR5.out)
   clear hb6 HC HB5 HT5 HR5 b0 b1 b2 b3 b4 b5 b6 b7 d0 d1 d2 d3 d4 d5 d6 d7
   obtain⟨w7,hw7⟩:=named (w6.alloc (ftO ⟨fl,fm,fp⟩))
   have HU7:Hid (w7.heap[w6.heap.size]? =some (ftO ⟨fl,fm,fp⟩)):=by show _=_;rw[hw7];exact at_new _ _
   have HT7:Hid (w7.heap[T]? =some (ftO ⟨al,am,ap⟩)):=by show _=_;rw[hw7];exact at_old HT6.out
   have HR7:Hid (w7.heap[w.heap.size]? =some (ftO ⟨0,0,false⟩)):=by show _=_;rw[hw7];exact at_old HR6.out
   have HB7:Hid (Below w.heap.size w w7):=by show Below _ _ _;rw[hw7];exact HB6.out.alloc HB6.out.size _
   have hTU:T<w6.heap.size:=lt_of_block HT6.out
   obtain⟨U,hU⟩:=named w6.heap.size
   rw[← hU]at HU7 hTU
   have q1:¬T=U:=by omega
   have q2:¬U=T:=by omega
   have HUq:=hide hU
   simp only[ftO]at hw7
   obtain⟨t0,t1,t2,tf⟩:=ft_cells HT7.out
   obtain⟨u0,u1,u2,uf⟩:=ft_cells HU7.out
   simp only at t0 t1 t2 u0 u1 u2
   simp only[ftV]
   clear HT6 HR6 HB6 hU
   go_upto_region 6 with fail
   rw[← hw7, ←HUq.out]
   clear hw7 HUq
   by_cases hmn:al<fl
   ·have g1:¬fl≤al:=by omega
    have g2:al≤fl:=by omega
    cases ap with
    |true=>
     go_wp2_with fail
     refine(greaterMost_any am fm _).mono ?_
     rintro e w' ⟨rfl,rfl⟩
     go_wp2
     have hO:orF ⟨al,am,true⟩ ⟨fl,fm,fp⟩=⟨al,maxM am fm,fp⟩:=by
      show(⟨if al<fl then al else fl,maxM am fm,true&&fp⟩:FT)=_
      rw[if_pos (by omega)];rfl
     rw[hO]at HOk2
     have HT9:=hide (fset_at HT7.out ⟨al,maxM am fm,fp⟩)
     have HR9:=hide (fset_other (f:=⟨al,maxM am fm,fp⟩) HR7.out hRT.out)
     have HB9:=hide (fset_below HB7.out hTB.out ⟨al,maxM am fm,fp⟩)
     have HNx:Hid (foldF orF (factL ks)=((factL ks).drop (j+1+1)).foldl orF ⟨al,maxM am fm,fp⟩):=by show _=_;rw[HE.out,HD.out, ←hO];rfl
     clear hO
     go_roundw
     case rel=>exact⟨j+1,⟨al,maxM am fm,fp⟩,by omega,by go_num,HNx.out,HOk2.out,HT9.out,HR9.out,HB9.out⟩
     case measure=>simp[intOf];omega
    |false=>
     go_wp2_with fail
     refine(greaterMost_any am fm _).mono ?_
     rintro e w' ⟨rfl,rfl⟩
     go_wp2
     have hO:orF ⟨al,am,false⟩ ⟨fl,fm,fp⟩=⟨al,maxM am fm,false⟩:=by
      show(⟨if al<fl then al else fl,maxM am fm,false&&fp⟩:FT)=_
      rw[if_pos (by omega)];rfl
     rw[hO]at HOk2
     have HT9:=hide (fset_at HT7.out ⟨al,maxM am fm,false⟩)
     have HR9:=hide (fset_other (f:=⟨al,maxM am fm,false⟩) HR7.out hRT.out)
     have HB9:=hide (fset_below HB7.out hTB.out ⟨al,maxM am fm,false⟩)
     have HNx:Hid (foldF orF (factL ks)=((factL ks).drop (j+1+1)).foldl orF ⟨al,maxM am fm,false⟩):=by show _=_;rw[HE.out,HD.out, ←hO];rfl
     clear hO
     go_roundw
     case rel=>exact⟨j+1,⟨al,maxM am fm,false⟩,by omega,by go_num,HNx.out,HOk2.out,HT9.out,HR9.out,HB9.out⟩
     case measure=>simp[intOf];omega
   ·by_cases heq:al=fl
    ·subst heq
     clear hmn
     cases ap with
     |true=>
      go_wp2_with fail
      refine(greaterMost_any am fm _).mono ?_
      rintro e w' ⟨rfl,rfl⟩
      go_wp2
      have hO:orF ⟨al,am,true⟩ ⟨al,fm,fp⟩=⟨al,maxM am fm,fp⟩:=by
       show(⟨if al<al then al else al,maxM am fm,true&&fp⟩:FT)=_
       rw[if_neg (by omega)];rfl
      rw[hO]at HOk2
      have HT9:=hide (fset_at HT7.out ⟨al,maxM am fm,fp⟩)
      have HR9:=hide (fset_other (f:=⟨al,maxM am fm,fp⟩) HR7.out hRT.out)
      have HB9:=hide (fset_below HB7.out hTB.out ⟨al,maxM am fm,fp⟩)
      have HNx:Hid (foldF orF (factL ks)=((factL ks).drop (j+1+1)).foldl orF ⟨al,maxM am fm,fp⟩):=by show _=_;rw[HE.out,HD.out, ←hO];rfl
      clear hO
      go_roundw
      case rel=>exact⟨j+1,⟨al,maxM am fm,fp⟩,by omega,by go_num,HNx.out,HOk2.out,HT9.out,HR9.out,HB9.out⟩
      case measure=>simp[intOf];omega
     |false=>
      go_wp2_with fail
      refine(greaterMost_any am fm _).mono ?_
      rintro e w' ⟨rfl,rfl⟩
      go_wp2
      have hO:orF ⟨al,am,false⟩ ⟨al,fm,fp⟩=⟨al,maxM am fm,false⟩:=by
       show(⟨if al<al then al else al,maxM am fm,false&&fp⟩:FT)=_
       rw[if_neg (by omega)];rfl
      rw[hO]at HOk2
      have HT9:=hide (fset_at HT7.out ⟨al,maxM am fm,false⟩)
      have HR9:=hide (fset_other (f:=⟨al,maxM am fm,false⟩) HR7.out hRT.out)
      have HB9:=hide (fset_below HB7.out hTB.out ⟨al,maxM am fm,false⟩)
      have HNx:Hid (foldF orF (factL ks)=((factL ks).drop (j+1+1)).foldl orF ⟨al,maxM am fm,false⟩):=by show _=_;rw[HE.out,HD.out, ←hO];rfl
      clear hO
      go_roundw
      case rel=>exact⟨j+1,⟨al,maxM am fm,false⟩,by omega,by go_num,HNx.out,HOk2.out,HT9.out,HR9.out,HB9.out⟩
      case measure=>simp[intOf];omega
    ·have g1:¬al≤fl:=by omega
     have g2:fl≤al:=by omega
     clear hmn heq
     cases ap with
     |true=>
      go_wp2_with fail
      refine(greaterMost_any am fm _).mono ?_
      rintro e w' ⟨rfl,rfl⟩
      go_wp2
      have hO:orF ⟨al,am,true⟩ ⟨fl,fm,fp⟩=⟨fl,maxM am fm,fp⟩:=by
       show(⟨if al<fl then al else fl,maxM am fm,true&&fp⟩:FT)=_
       rw[if_neg (by omega)];rfl
      rw[hO]at HOk2
      have HT9:=hide (fset_at HT7.out ⟨fl,maxM am fm,fp⟩)
      have HR9:=hide (fset_other (f:=⟨fl,maxM am fm,fp⟩) HR7.out hRT.out)
      have HB9:=hide (fset_below HB7.out hTB.out ⟨fl,maxM am fm,fp⟩)
      have HNx:Hid (foldF orF (factL ks)=((factL ks).drop (j+1+1)).foldl orF ⟨fl,maxM am fm,fp⟩):=by show _=_;rw[HE.out,HD.out, ←hO];rfl
      clear hO
      go_roundw
      case rel=>exact⟨j+1,⟨fl,maxM am fm,fp⟩,by omega,by go_num,HNx.out,HOk2.out,HT9.out,HR9.out,HB9.out⟩
      case measure=>simp[intOf];omega
     |false=>
      go_wp2_with fail
      refine(greaterMost_any am fm _).mono ?_
      rintro e w' ⟨rfl,rfl⟩
      go_wp2
      have hO:orF ⟨al,am,false⟩ ⟨fl,fm,fp⟩=⟨fl,maxM am fm,false⟩:=by
       show(⟨if al<fl then al else fl,maxM am fm,false&&fp⟩:FT)=_
       rw[if_neg (by omega)];rfl
      rw[hO]at HOk2
      have HT9:=hide (fset_at HT7.out ⟨fl,maxM am fm,false⟩)
      have HR9:=hide (fset_other (f:=⟨fl,maxM am fm,false⟩) HR7.out hRT.out)
      have HB9:=hide (fset_below HB7.out hTB.out ⟨fl,maxM am fm,false⟩)
      have HNx:Hid (foldF orF (factL ks)=((factL ks).drop (j+1+1)).foldl orF ⟨fl,maxM am fm,false⟩):=by show _=_;rw[HE.out,HD.out, ←hO];rfl
      clear hO
      go_roundw
      case rel=>exact⟨j+1,⟨fl,maxM am fm,false⟩,by omega,by go_num,HNx.out,HOk2.out,HT9.out,HR9.out,HB9.out⟩
      case measure=>simp[intOf];omega
  ·have hjn:j+1=n:=by omega
   have e1:¬(j:Int)<(n:Int) - 1:=by omega
   have e2:¬(j:Int)<((n - 1:Nat):Int):=by omega
   have hG2:Hid (G=ac):=by
    show _=_
    rw[HG.out,HE.out,List.drop_eq_nil_of_le (by rw[factL_len];have:=HN.out;omega)];rfl
   obtain⟨t0,t1,t2,tf⟩:=ft_cells HTr.out
   obtain⟨r0,r1,r2,rf⟩:=ft_cells HRr.out
   clear hjn
   go_wp2
   exact ret_f (N:=w.heap.size) (F:=ac) rfl rfl (fset_at HRr.out ac) ⟨by rw[hG2.out],fset_below HBr.out (leR _) _⟩
theorem repeatFacts_any{w0:World}(n m:NV){x:Addr}(hka:n.ka=some x)(hkl:n.kl=1)(hc0:NCells w0 x m)(F:FT)(ih:∀W:World,Below w0.heap.size w0 W→Calls prog 64 #[nvV m] W fun e w'=>e=.returned (ftV F)∧Below W.heap.size W w')(hok:okF F)(hl:0≤n.least∧n.least≤100)(hm: -1≤n.most∧n.most≤100)(w:World)(hw0:Below w0.heap.size w0 w):
  Calls prog 107 #[nvV n] w fun e w'=>e=.returned (ftV (repF F n.least n.most))∧Below w.heap.size w w':=by
 have hb1:Below w.heap.size w ((w.alloc (nvO n)).alloc (ftO ⟨0,0,false⟩)):=(allocB w _).alloc (by simp) _
 obtain⟨w1,hw1⟩:=named ((w.alloc (nvO n)).alloc (ftO ⟨0,0,false⟩))
 have hX1:w1.heap[w.heap.size]? =some (nvO n):=by rw[hw1];exact at_old (at_new _ _)
 have hR1:w1.heap[w.heap.size+1]? =some (ftO ⟨0,0,false⟩):=by rw[hw1];exact at_new' _ _ (by simp)
 rw[← hw1]at hb1
 have hB1':=hw0.andT hb1
 have HC:=hide (ih w1 hB1')
 obtain⟨c0,c1,c2,c3,c4,c5,c6,c7⟩:=hc0.below hB1'
 have HB1:=hide hb1
 have HX1:=hide hX1
 have HR1:=hide hR1
 obtain⟨d0,d1,d2,d3,d4,d5,d6,d7⟩:=nv_cells hX1
 rw[hka,hkl]at d2
 simp only[nvO,ftO]at hw1
 obtain⟨fl,fm,fp⟩:=F
 unfold okF at hok
 simp only at hok
 obtain⟨f1,f2,f3,f4⟩:=hok
 have hms:=mul_small f1 f2 hl.1 hl.2
 have hmw:IntKind.i64.wrap (fl*n.least)=fl*n.least:=by rw[IntKind.wrap_i64];omega
 obtain⟨G,hG⟩:=named (repF ⟨fl,fm,fp⟩ n.least n.most)
 have HG:Hid (G=⟨leastF (fl*n.least),timM fm n.most,fp⟩):=hG
 rw[← hG]
 clear ih hw0 hb1 hX1 hR1 hB1' hc0 hG hms hka hkl
 go_enter func107,ntmps107
 go_upto_region 1 with fail
 rw[← hw1]
 clear hw1
 go_wp2_with fail
 refine HC.out.mono ?_
 rintro e w2 ⟨rfl,hb2⟩
 have HB2:=hide (HB1.out.andT hb2)
 have HX2:=hide (show w2.heap[w.heap.size]? =some (nvO n) by rw[hb2.block _ (lt_of_block HX1.out)];exact HX1.out)
 have HR2:=hide (show w2.heap[w.heap.size+1]? =some (ftO ⟨0,0,false⟩) by rw[hb2.block _ (lt_of_block HR1.out)];exact HR1.out)
 clear hb2 HC HB1 HX1 HR1 c0 c1 c2 c3 c4 c5 c6 c7 d0 d1 d2 d3 d4 d5 d6 d7
 obtain⟨w3,hw3⟩:=named (w2.alloc (ftO ⟨fl,fm,fp⟩))
 have HT3:Hid (w3.heap[w2.heap.size]? =some (ftO ⟨fl,fm,fp⟩)):=by show _=_;rw[hw3];exact at_new _ _
 have HX3:Hid (w3.heap[w.heap.size]? =some (nvO n)):=by show _=_;rw[hw3];exact at_old HX2.out
 have HR3:Hid (w3.heap[w.heap.size+1]? =some (ftO ⟨0,0,false⟩)):=by show _=_;rw[hw3];exact at_old HR2.out
 have HB3:Hid (Below w.heap.size w w3):=by show Below _ _ _;rw[hw3];exact HB2.out.alloc HB2.out.size _
 have hlt:w.heap.size+1<w2.heap.size:=lt_of_block HR2.out
 obtain⟨T,hT⟩:=named w2.heap.size
 rw[← hT]at HT3 hlt
 have q1:¬T=w.heap.size:=by omega
 have q2:¬w.heap.size=T:=by omega
 have q3:¬T=w.heap.size+1:=by omega
 have q4:¬w.heap.size+1=T:=by omega
 have HTq:=hide hT
 obtain⟨t0,t1,t2,tf⟩:=ft_cells HT3.out
 obtain⟨r0,r1,r2,rf⟩:=ft_cells HR3.out
 obtain⟨d0,d1,d2,d3,d4,d5,d6,d7⟩:=nv_cells HX3.out
 simp only at t0 t1 t2 r0 r1 r2
 simp only[ftO]at hw3
 simp only[ftV]
 clear HX2 HR2 HB2 hT
 go_upto_region 2 with fail
 rw[← hw3, ←HTq.out]
 clear hw3 HTq
 go_wp2_with fail
 refine(leastTaken_any (fl*n.least) _).mono ?_
 rintro e w' ⟨rfl,rfl⟩
 go_wp2_with fail
 refine(mostTimes_any fm n.most _ f4 hm.2).mono ?_
 rintro e w' ⟨rfl,rfl⟩
 go_upto_region 4 with fail
 obtain⟨w4,hw4⟩:=named ((w3.setCell ⟨T,0,none⟩ (.int .i64 (leastF (fl*n.least)))).setCell ⟨T,1,none⟩ (.int .i64 (timM fm n.most)))
 have HT4:Hid (w4.heap[T]? =some (ftO ⟨leastF (fl*n.least),timM fm n.most,fp⟩)):=by show _=_;rw[hw4,set_one' (set_one' HT3.out _ _) _ _];rfl
 have HR4:Hid (w4.heap[w.heap.size+1]? =some (ftO ⟨0,0,false⟩)):=by show _=_;rw[hw4,Below.heap_setCell _ _ _ _ (fun e=>q4 e),Below.heap_setCell _ _ _ _ (fun e=>q4 e)];exact HR3.out
 have HB4:Hid (Below w.heap.size w w4):=by show Below _ _ _;rw[hw4];exact(HB3.out.setCell (p:=⟨T,0,none⟩) (by show w.heap.size≤T;omega) _).setCell (p:=⟨T,1,none⟩) (by show w.heap.size≤T;omega) _
 rw[← hw4]
 clear hw4 t0 t1 t2 tf r0 r1 r2 rf d0 d1 d2 d3 d4 d5 d6 d7 HT3 HX3 HR3 HB3
 obtain⟨A,hA⟩:=named (leastF (fl*n.least))
 obtain⟨B,hB⟩:=named (timM fm n.most)
 rw[← hA, ←hB]at HT4 HG
 rw[← hA, ←hB]
 clear hA hB
 obtain⟨t0,t1,t2,tf⟩:=ft_cells HT4.out
 obtain⟨r0,r1,r2,rf⟩:=ft_cells HR4.out
 simp only at t0 t1 t2 r0 r1 r2
 go_wp2
 exact ret_f (N:=w.heap.size+1) (F:=⟨A,B,fp⟩) rfl rfl (fset_at HR4.out ⟨A,B,fp⟩) ⟨by rw[HG.out],fset_below HB4.out (by omega) ⟨A,B,fp⟩⟩
theorem facts_any{w0:World}{n:NV}{t:Tr}(h:NodeC w0 n t):good t→∀w:World,Below w0.heap.size w0 w→Calls prog 64 #[nvV n] w fun e w'=>e=.returned (ftV (factT t))∧Below w.heap.size w w':=by
 induction h with
 |mk n set ks vs hs hk hkids ih=>
  intro hg w hw0
  have hgn:=good_node hg
  have hgk:=good_kids hg
  have hkind:(Tr.mk n.kind n.num n.least n.most n.way n.fold set ks).kind=n.kind:=rfl
  have hkb:=hgn.2.1
  unfold kidsB at hkb
  rw[hkind]at hkb
  have HIH:=hide (fun j hj W hW=>ih j hj (hgk j hj) W hW)
  have HOk:=hide (fun j (hj:j<ks.length)=>factT_ok ks[j] (hgk j hj))
  have HK:=hide hk
  have hrep:=hgn.2.2
  rw[hkind]at hrep
  have hk1:=hgn.1
  rw[hkind]at hk1
  have HFT:Hid (factT (.mk n.kind n.num n.least n.most n.way n.fold set ks)=factK n.kind n.least n.most (factL ks)):=rfl
  have HLen:=hide (factL_len ks)
  have HGet:=hide (factL_get ks)
  have hb1:Below w.heap.size w ((w.alloc (nvO n)).alloc (ftO ⟨0,0,false⟩)):=(allocB w _).alloc (by simp) _
  obtain⟨w1,hw1⟩:=named ((w.alloc (nvO n)).alloc (ftO ⟨0,0,false⟩))
  have hX1:w1.heap[w.heap.size]? =some (nvO n):=by rw[hw1];exact at_old (at_new _ _)
  have hR1:w1.heap[w.heap.size+1]? =some (ftO ⟨0,0,false⟩):=by rw[hw1];exact at_new' _ _ (by simp)
  rw[← hw1]at hb1
  have hB1':=hw0.andT hb1
  have HB1':=hide hB1'
  have HB1:=hide hb1
  have HX1:=hide hX1
  have HR1:=hide hR1
  have HW0:=hide hw0
  obtain⟨d0,d1,d2,d3,d4,d5,d6,d7⟩:=nv_cells hX1
  obtain⟨r0,r1,r2,rf⟩:=ft_cells hR1
  simp only at r0 r1 r2
  simp only[nvO,ftO]at hw1
  obtain⟨G,hG⟩:=named (factT (.mk n.kind n.num n.least n.most n.way n.fold set ks))
  have HG:Hid (G=factK n.kind n.least n.most (factL ks)):=hG
  rw[← hG]
  clear hs hk hkids ih hg hgn hgk hkind hb1 hX1 hR1 hB1' hw0 hG HFT
  by_cases h1:n.kind=1
  ·have hF:Hid (G=⟨0,0,true⟩):=by show _=_;rw[HG.out];unfold factK;rw[if_pos h1]
   have b1:(n.kind==1)=true:=by simpa using h1
   clear hrep hkb hk1 h1
   go_enter func64,ntmps64
   go_upto_region 1 with fail
   rw[← hw1]
   clear hw1
   go_wp2
   exact ret_f (N:=w.heap.size+1) (F:=⟨0,0,true⟩) rfl rfl (fset_at HR1.out ⟨0,0,true⟩) ⟨by rw[hF.out],fset_below HB1.out (by omega) ⟨0,0,true⟩⟩
  ·by_cases h2:n.kind=2
   ·have hF:Hid (G=⟨1,1,true⟩):=by show _=_;rw[HG.out];unfold factK;rw[if_neg (by omega),if_pos h2]
    have b1:(n.kind==1)=false:=by simp only[beq_eq_false_iff_ne,ne_eq];omega
    have b2:(n.kind==2)=true:=by simpa using h2
    clear hrep hkb hk1 h1 h2
    go_enter func64,ntmps64
    go_upto_region 1 with fail
    rw[← hw1]
    clear hw1
    go_wp2
    exact ret_f (N:=w.heap.size+1) (F:=⟨1,1,true⟩) rfl rfl (fset_at HR1.out ⟨1,1,true⟩) ⟨by rw[hF.out],fset_below HB1.out (by omega) ⟨1,1,true⟩⟩
   ·by_cases h9:n.kind=9
    ·have hF:Hid (G=foldF addF (factL ks)):=by show _=_;rw[HG.out];unfold factK;rw[if_neg (by omega),if_neg (by omega),if_pos h9]
     have b1:(n.kind==1)=false:=by simp only[beq_eq_false_iff_ne,ne_eq];omega
     have b2:(n.kind==2)=false:=by simp only[beq_eq_false_iff_ne,ne_eq];omega
     have b9:(n.kind==9)=true:=by simpa using h9
     have hl2:2≤ks.length:=by
      rw[if_pos h9]at hkb
      simp only[Bool.and_eq_true,decide_eq_true_eq]at hkb
      exact hkb.1.1
     clear hkb hrep hk1 h1 h2 h9
     rcases HK.out with⟨_,_,_,h00⟩|⟨x,hx,hkk,hmx,hcl⟩
     ·exact absurd h00 (by omega)
     ·have HC:=hide (rowFacts_any hcl hl2 hmx HIH.out HOk.out w1 HB1'.out)
      obtain⟨FF,hFF⟩:=named (foldF addF (factL ks))
      rw[← hFF]at HC hF
      rw[hx,hkk]at d2
      obtain⟨q,hq⟩:=named ks.length
      rw[← hq]at HC d2
      clear hcl hFF hx hkk hq hl2 hmx
      go_enter func64,ntmps64
      go_upto_region 1 with fail
      rw[← hw1]
      clear hw1
      go_wp2_with fail
      refine HC.out.mono ?_
      rintro e w2 ⟨rfl,hb2⟩
      have HB2:=hide (HB1.out.andT hb2)
      have HR2:=hide (show w2.heap[w.heap.size+1]? =some (ftO ⟨0,0,false⟩) by rw[hb2.block _ (lt_of_block HR1.out)];exact HR1.out)
      clear hb2 d0 d1 d2 d3 d4 d5 d6 d7 r0 r1 r2 rf
      obtain⟨r0,r1,r2,rf⟩:=ft_cells HR2.out
      simp only at r0 r1 r2
      obtain⟨fl,fm,fp⟩:=FF
      simp only[ftV]
      go_wp2
      exact ret_f (N:=w.heap.size+1) (F:=⟨fl,fm,fp⟩) rfl rfl (fset_at HR2.out ⟨fl,fm,fp⟩) ⟨by rw[hF.out],fset_below HB2.out (by omega) ⟨fl,fm,fp⟩⟩
    ·by_cases h10:n.kind=10
     ·have hF:Hid (G=foldF orF (factL ks)):=by show _=_;rw[HG.out];unfold factK;rw[if_neg (by omega),if_neg (by omega),if_neg (by omega),if_pos h10]
      have b1:(n.kind==1)=false:=by simp only[beq_eq_false_iff_ne,ne_eq];omega
      have b2:(n.kind==2)=false:=by simp only[beq_eq_false_iff_ne,ne_eq];omega
      have b9:(n.kind==9)=false:=by simp only[beq_eq_false_iff_ne,ne_eq];omega
      have b10:(n.kind==10)=true:=by simpa using h10
      have hl2:2≤ks.length:=by
       rw[if_neg (by omega),if_pos h10]at hkb
       simp only[Bool.and_eq_true,decide_eq_true_eq]at hkb
       exact hkb.1
      clear hkb hrep hk1 h1 h2 h9 h10
      rcases HK.out with⟨_,_,_,h00⟩|⟨x,hx,hkk,hmx,hcl⟩
      ·exact absurd h00 (by omega)
      ·have HC:=hide (eitherFacts_any hcl hl2 hmx HIH.out HOk.out w1 HB1'.out)
       obtain⟨FF,hFF⟩:=named (foldF orF (factL ks))
       rw[← hFF]at HC hF
       rw[hx,hkk]at d2
       obtain⟨q,hq⟩:=named ks.length
       rw[← hq]at HC d2
       clear hcl hFF hx hkk hq hl2 hmx
       go_enter func64,ntmps64
       go_upto_region 1 with fail
       rw[← hw1]
       clear hw1
       go_wp2_with fail
       refine HC.out.mono ?_
       rintro e w2 ⟨rfl,hb2⟩
       have HB2:=hide (HB1.out.andT hb2)
       have HR2:=hide (show w2.heap[w.heap.size+1]? =some (ftO ⟨0,0,false⟩) by rw[hb2.block _ (lt_of_block HR1.out)];exact HR1.out)
       clear hb2 d0 d1 d2 d3 d4 d5 d6 d7 r0 r1 r2 rf
       obtain⟨r0,r1,r2,rf⟩:=ft_cells HR2.out
       simp only at r0 r1 r2
       obtain⟨fl,fm,fp⟩:=FF
       simp only[ftV]
       go_wp2
       exact ret_f (N:=w.heap.size+1) (F:=⟨fl,fm,fp⟩) rfl rfl (fset_at HR2.out ⟨fl,fm,fp⟩) ⟨by rw[hF.out],fset_below HB2.out (by omega) ⟨fl,fm,fp⟩⟩
     ·by_cases h11:n.kind=11
      ·have hF:Hid (G=headF (factL ks)):=by show _=_;rw[HG.out];unfold factK;rw[if_neg (by omega),if_neg (by omega),if_neg (by omega),if_neg (by omega),if_pos (by omega)]
       have b1:(n.kind==1)=false:=by simp only[beq_eq_false_iff_ne,ne_eq];omega
       have b2:(n.kind==2)=false:=by simp only[beq_eq_false_iff_ne,ne_eq];omega
       have b9:(n.kind==9)=false:=by simp only[beq_eq_false_iff_ne,ne_eq];omega
       have b10:(n.kind==10)=false:=by simp only[beq_eq_false_iff_ne,ne_eq];omega
       have b11:(n.kind==11)=true:=by simpa using h11
       have hl1:ks.length=1:=by
        rw[if_neg (by omega),if_neg (by omega),if_pos (by omega)]at hkb
        exact of_decide_eq_true hkb
       have hhd:headF (factL ks)=factT (ks[0]'(by omega)):=by
        have h1:=HGet.out 0 (by omega)
        cases hq:factL ks with
        |nil=>rw[hq]at h1;cases h1
        |cons f fs=>rw[hq]at h1;exact Option.some.inj h1
       clear hkb hrep hk1 h1 h2 h9 h10 h11
       rcases HK.out with⟨_,_,_,h00⟩|⟨x,hx,hkk,hmx,hcl⟩
       ·exact absurd h00 (by omega)
       ·have hcx:NCells w0 x (vs 0):=by have:=hcl 0 (by omega);simpa[add_zero']using this
        have HC:=hide (HIH.out 0 (by omega) w1 HB1'.out)
        obtain⟨c0,c1,c2,c3,c4,c5,c6,c7⟩:=hcx.below HB1'.out
        obtain⟨FF,hFF⟩:=named (factT (ks[0]'(by omega)))
        rw[hhd, ←hFF]at hF
        rw[← hFF]at HC
        rw[hx,hkk,hl1]at d2
        clear hcl hFF hx hkk hmx hhd hcx hl1
        go_enter func64,ntmps64
        go_upto_region 1 with fail
        rw[← hw1]
        clear hw1
        go_wp2_with fail
        refine HC.out.mono ?_
        rintro e w2 ⟨rfl,hb2⟩
        have HB2:=hide (HB1.out.andT hb2)
        have HR2:=hide (show w2.heap[w.heap.size+1]? =some (ftO ⟨0,0,false⟩) by rw[hb2.block _ (lt_of_block HR1.out)];exact HR1.out)
        clear hb2 c0 c1 c2 c3 c4 c5 c6 c7 d0 d1 d2 d3 d4 d5 d6 d7 r0 r1 r2 rf
        obtain⟨r0,r1,r2,rf⟩:=ft_cells HR2.out
        simp only at r0 r1 r2
        obtain⟨fl,fm,fp⟩:=FF
        simp only[ftV]
        go_wp2
        exact ret_f (N:=w.heap.size+1) (F:=⟨fl,fm,fp⟩) rfl rfl (fset_at HR2.out ⟨fl,fm,fp⟩) ⟨by rw[hF.out],fset_below HB2.out (by omega) ⟨fl,fm,fp⟩⟩
      ·by_cases h13:n.kind=13
       ·have hF:Hid (G=headF (factL ks)):=by show _=_;rw[HG.out];unfold factK;rw[if_neg (by omega),if_neg (by omega),if_neg (by omega),if_neg (by omega),if_pos (by omega)]
        have b1:(n.kind==1)=false:=by simp only[beq_eq_false_iff_ne,ne_eq];omega
        have b2:(n.kind==2)=false:=by simp only[beq_eq_false_iff_ne,ne_eq];omega
        have b9:(n.kind==9)=false:=by simp only[beq_eq_false_iff_ne,ne_eq];omega
        have b10:(n.kind==10)=false:=by simp only[beq_eq_false_iff_ne,ne_eq];omega
        have b11:(n.kind==11)=false:=by simp only[beq_eq_false_iff_ne,ne_eq];omega
        have b13:(n.kind==13)=true:=by simpa using h13
        have hl1:ks.length=1:=by
         rw[if_neg (by omega),if_neg (by omega),if_pos (by omega)]at hkb
         exact of_decide_eq_true hkb
        have hhd:headF (factL ks)=factT (ks[0]'(by omega)):=by
         have h1:=HGet.out 0 (by omega)
         cases hq:factL ks with
         |nil=>rw[hq]at h1;cases h1
         |cons f fs=>rw[hq]at h1;exact Option.some.inj h1
        clear hkb hrep hk1 h1 h2 h9 h10 h11 h13
        rcases HK.out with⟨_,_,_,h00⟩|⟨x,hx,hkk,hmx,hcl⟩
        ·exact absurd h00 (by omega)
        ·have hcx:NCells w0 x (vs 0):=by have:=hcl 0 (by omega);simpa[add_zero']using this
         have HC:=hide (HIH.out 0 (by omega) w1 HB1'.out)
         obtain⟨c0,c1,c2,c3,c4,c5,c6,c7⟩:=hcx.below HB1'.out
         obtain⟨FF,hFF⟩:=named (factT (ks[0]'(by omega)))
         rw[hhd, ←hFF]at hF
         rw[← hFF]at HC
         rw[hx,hkk,hl1]at d2
         clear hcl hFF hx hkk hmx hhd hcx hl1
         go_enter func64,ntmps64
         go_upto_region 1 with fail
         rw[← hw1]
         clear hw1
         go_wp2_with fail
         refine HC.out.mono ?_
         rintro e w2 ⟨rfl,hb2⟩
         have HB2:=hide (HB1.out.andT hb2)
         have HR2:=hide (show w2.heap[w.heap.size+1]? =some (ftO ⟨0,0,false⟩) by rw[hb2.block _ (lt_of_block HR1.out)];exact HR1.out)
         clear hb2 c0 c1 c2 c3 c4 c5 c6 c7 d0 d1 d2 d3 d4 d5 d6 d7 r0 r1 r2 rf
         obtain⟨r0,r1,r2,rf⟩:=ft_cells HR2.out
         simp only at r0 r1 r2
         obtain⟨fl,fm,fp⟩:=FF
         simp only[ftV]
         go_wp2
         exact ret_f (N:=w.heap.size+1) (F:=⟨fl,fm,fp⟩) rfl rfl (fset_at HR2.out ⟨fl,fm,fp⟩) ⟨by rw[hF.out],fset_below HB2.out (by omega) ⟨fl,fm,fp⟩⟩
       ·by_cases h12:n.kind=12
        ·have hF:Hid (G=repF (headF (factL ks)) n.least n.most):=by show _=_;rw[HG.out];unfold factK;rw[if_neg (by omega),if_neg (by omega),if_neg (by omega),if_neg (by omega),if_neg (by omega),if_pos h12]
         have b1:(n.kind==1)=false:=by simp only[beq_eq_false_iff_ne,ne_eq];omega
         have b2:(n.kind==2)=false:=by simp only[beq_eq_false_iff_ne,ne_eq];omega
         have b9:(n.kind==9)=false:=by simp only[beq_eq_false_iff_ne,ne_eq];omega
         have b10:(n.kind==10)=false:=by simp only[beq_eq_false_iff_ne,ne_eq];omega
         have b11:(n.kind==11)=false:=by simp only[beq_eq_false_iff_ne,ne_eq];omega
         have b13:(n.kind==13)=false:=by simp only[beq_eq_false_iff_ne,ne_eq];omega
         have b12:(n.kind==12)=true:=by simpa using h12
         have hl1:ks.length=1:=by
          rw[if_neg (by omega),if_neg (by omega),if_pos (by omega)]at hkb
          exact of_decide_eq_true hkb
         have hrp:=hrep h12
         have hbd:(0≤n.least∧n.least≤100)∧(-1≤n.most∧n.most≤100):=by
          unfold repE at hrp
          have e1:(Tr.mk n.kind n.num n.least n.most n.way n.fold set ks).least=n.least:=rfl
          have e2:(Tr.mk n.kind n.num n.least n.most n.way n.fold set ks).most=n.most:=rfl
          rw[e1,e2]at hrp
          split at hrp
          ·omega
          ·split at hrp
           ·omega
           ·omega
         clear hrp
         have hhd:headF (factL ks)=factT (ks[0]'(by omega)):=by
          have h1:=HGet.out 0 (by omega)
          cases hq:factL ks with
          |nil=>rw[hq]at h1;cases h1
          |cons f fs=>rw[hq]at h1;exact Option.some.inj h1
         clear hkb hrep hk1 h1 h2 h9 h10 h11 h13 h12
         rcases HK.out with⟨_,_,_,h00⟩|⟨x,hx,hkk,hmx,hcl⟩
         ·exact absurd h00 (by omega)
         ·have hcx:NCells w0 x (vs 0):=by have:=hcl 0 (by omega);simpa[add_zero']using this
          have HC:=hide (repeatFacts_any n (vs 0) hx (hkk.trans hl1) hcx (factT (ks[0]'(by omega))) (fun W hW=>HIH.out 0 (by omega) W hW) (HOk.out 0 (by omega)) hbd.1 hbd.2 w1 HB1'.out)
          rw[hhd]at hF
          obtain⟨FF,hFF⟩:=named (repF (factT (ks[0]'(by omega))) n.least n.most)
          rw[← hFF]at HC hF
          clear hcl hFF hx hkk hmx hhd hcx hl1 hbd
          go_enter func64,ntmps64
          go_upto_region 1 with fail
          rw[← hw1]
          clear hw1
          go_wp2_with fail
          refine HC.out.mono ?_
          rintro e w2 ⟨rfl,hb2⟩
          have HB2:=hide (HB1.out.andT hb2)
          have HR2:=hide (show w2.heap[w.heap.size+1]? =some (ftO ⟨0,0,false⟩) by rw[hb2.block _ (lt_of_block HR1.out)];exact HR1.out)
          clear hb2 d0 d1 d2 d3 d4 d5 d6 d7 r0 r1 r2 rf
          obtain⟨r0,r1,r2,rf⟩:=ft_cells HR2.out
          simp only at r0 r1 r2
          obtain⟨fl,fm,fp⟩:=FF
          simp only[ftV]
          go_wp2
          exact ret_f (N:=w.heap.size+1) (F:=⟨fl,fm,fp⟩) rfl rfl (fset_at HR2.out ⟨fl,fm,fp⟩) ⟨by rw[hF.out],fset_below HB2.out (by omega) ⟨fl,fm,fp⟩⟩
        ·by_cases h18:n.kind=18
         ·have hF:Hid (G=⟨0, -1,false⟩):=by show _=_;rw[HG.out];unfold factK;rw[if_neg (by omega),if_neg (by omega),if_neg (by omega),if_neg (by omega),if_neg (by omega),if_neg (by omega),if_pos h18]
          have b1:(n.kind==1)=false:=by simp only[beq_eq_false_iff_ne,ne_eq];omega
          have b2:(n.kind==2)=false:=by simp only[beq_eq_false_iff_ne,ne_eq];omega
          have b9:(n.kind==9)=false:=by simp only[beq_eq_false_iff_ne,ne_eq];omega
          have b10:(n.kind==10)=false:=by simp only[beq_eq_false_iff_ne,ne_eq];omega
          have b11:(n.kind==11)=false:=by simp only[beq_eq_false_iff_ne,ne_eq];omega
          have b13:(n.kind==13)=false:=by simp only[beq_eq_false_iff_ne,ne_eq];omega
          have b12:(n.kind==12)=false:=by simp only[beq_eq_false_iff_ne,ne_eq];omega
          have b18:(n.kind==18)=true:=by simpa using h18
          clear hrep hkb hk1 h1 h2 h9 h10 h11 h13 h12 h18
          go_enter func64,ntmps64
          go_upto_region 1 with fail
          rw[← hw1]
          clear hw1
          go_wp2
          exact ret_f (N:=w.heap.size+1) (F:=⟨0, -1,false⟩) rfl rfl (fset_at HR1.out ⟨0, -1,false⟩) ⟨by rw[hF.out],fset_below HB1.out (by omega) ⟨0, -1,false⟩⟩
         ·have hF:Hid (G=⟨0,0,false⟩):=by show _=_;rw[HG.out];unfold factK;rw[if_neg (by omega),if_neg (by omega),if_neg (by omega),if_neg (by omega),if_neg (by omega),if_neg (by omega),if_neg (by omega)]
          have b1:(n.kind==1)=false:=by simp only[beq_eq_false_iff_ne,ne_eq];omega
          have b2:(n.kind==2)=false:=by simp only[beq_eq_false_iff_ne,ne_eq];omega
          have b9:(n.kind==9)=false:=by simp only[beq_eq_false_iff_ne,ne_eq];omega
          have b10:(n.kind==10)=false:=by simp only[beq_eq_false_iff_ne,ne_eq];omega
          have b11:(n.kind==11)=false:=by simp only[beq_eq_false_iff_ne,ne_eq];omega
          have b13:(n.kind==13)=false:=by simp only[beq_eq_false_iff_ne,ne_eq];omega
          have b12:(n.kind==12)=false:=by simp only[beq_eq_false_iff_ne,ne_eq];omega
          have b18:(n.kind==18)=false:=by simp only[beq_eq_false_iff_ne,ne_eq];omega
          clear hrep hkb hk1 h1 h2 h9 h10 h11 h13 h12 h18 
          go_enter func64,ntmps64
          go_upto_region 1 with fail
          rw[← hw1]
          clear hw1
          go_wp2
          exact ret_f (N:=w.heap.size+1) (F:=⟨0,0,false⟩) rfl rfl (fset_at HR1.out ⟨0,0,false⟩) ⟨by rw[hF.out],fset_below HB1.out (by omega) ⟨0,0,false⟩⟩
end Go.Proofs.YtfnndcbjklppeaaGreatDoor
