import Derived.Test.YtfnndcbjklppeaaGreatDoorVQ2
set_option linter.unusedVariables false
set_option maxRecDepth 100000
set_option maxHeartbeats 8000000
open Go.Proofs.Tryz
namespace Go.Proofs.YtfnndcbjklppeaaGreatDoor.Mk
open Go.RowKit
variable {w w' : World} {mb : Nat} {g : Int} {s s' : MS} {ov lv : Value} {L : OpL}
theorem own_put8{W:World}{B e k b n cap:Nat}{xs:List Value}(h:W.ownsRow B e k (.slice (some ⟨b,0,none⟩) n cap) n xs)(i:Nat)(v:Value):(W.setCell ⟨b,i,none⟩ v).ownsRow B e k (.slice (some ⟨b,0,none⟩) n cap) n (xs.set i v):=by
 obtain⟨h1,h2⟩:=h
 rcases h2 with⟨h0,_⟩|⟨b',cap',cur,hv,hB,hh,hn,hm,hs,ht⟩
 ·cases h0
 ·cases hv
  refine⟨by simpa using h1,.inr ⟨b,cap,_,rfl,hB,set_oneQ hh i v,hn,hm,by simpa using hs,?_⟩⟩
  rw[Array.toList_setIfInBounds,List.take_set,ht]
theorem rowO_set:∀(L:OpL) (j:Nat) (hj:j<L.length) (o:OpV) (i:Nat) (v:Value),i<8→opL o=(opL L[j].1).set i v→(rowO L).set (j*8+i) v=rowO (L.set j (o,L[j].2))
 |x::xs,0,hj,o,i,v,hi,he=>by
  rw[rowO,List.flatMap_cons,List.set_cons_zero,rowO,List.flatMap_cons,List.set_append_left _ _ (by simp[opL];omega)]
  rw[show 0*8+i=i by omega]
  simp only[List.getElem_cons_zero]at he
  rw[he]
 |x::xs,j+1,hj,o,i,v,hi,he=>by
  have:=rowO_set xs j (by simpa using hj) o i v hi (by simpa using he)
  rw[rowO]at this
  rw[rowO,List.flatMap_cons,List.set_cons_succ,rowO,List.flatMap_cons,List.set_append_right _ _ (by simp[opL];omega)]
  rw[show (j+1)*8+i - (opL x.1).length=j*8+i by simp[opL];omega,this]
  rfl
theorem MV.putO{b cap:Nat}(h:MV w mb g s (.slice (some ⟨b,0,none⟩) s.ops.length cap) lv L)(j:Nat)(hj:j<L.length)(o:OpV)(i:Nat)(v:Value)(hi:i<8)(he:opL o=(opL L[j].1).set i v)(hsa:o.sa=L[j].1.sa∧o.sl=L[j].1.sl∧o.sc=L[j].1.sc):MV (w.setCell ⟨b,j*8+i,none⟩ v) mb g { s with ops:=s.ops.set j (stripO (o,L[j].2)) } (.slice (some ⟨b,0,none⟩) s.ops.length cap) lv (L.set j (o,L[j].2))∧Step mb w (w.setCell ⟨b,j*8+i,none⟩ v):=by
 have hb:mb+1≤b:=own_ge h.ops
 have hcur:∃cur,w.heap[b]? =some (.cells cur 52 (0,0)):=by
  rcases h.ops.2 with⟨h0,_⟩|⟨b',cap',cur,hv,_,hh,_⟩
  ·cases h0
  ·cases hv;exact⟨cur,hh⟩
 obtain⟨cur,hcur⟩:=hcur
 have key:∀{t:TypeId} {k:Nat} {c:Array Value} {fr:Nat×Nat},t≠52→w.heap[k]? =some (.cells c t fr)→(w.setCell ⟨b,j*8+i,none⟩ v).heap[k]? =some (.cells c t fr):=fun {t k c fr} ht hk=>by
  rw[Below.heap_setCell _ _ _ _ (by
   show k≠b
   rintro rfl
   rw[hcur]at hk
   cases hk
   exact ht rfl)]
  exact hk
 have st:Step mb w (w.setCell ⟨b,j*8+i,none⟩ v):=
  ⟨rfl,rfl,rfl,by simp[World.setCell],fun k hk=>by rw[Below.heap_setCell _ _ _ _ (by show k≠b;omega)],fun k h1 h2 cs e fr hc n1 n2=>key n1 hc⟩
 refine⟨⟨?_,?_,own_oth h.lab fun k _ _ cs hk=>key (by decide) hk,?_,fun y hy=>?_⟩,st⟩
 ·rw[Below.heap_setCell _ _ _ _ (by show mb≠b;omega)];exact h.box
 ·have :=own_put8 h.ops (j*8+i) v
  rw[rowO_set L j hj o i v hi he]at this
  simpa using this
 ·rw[List.map_set,h.str]
 ·rcases List.mem_or_eq_of_mem_set hy with hy|hy
  ·exact(h.set y hy).step st
  ·rw [hy]
   have:=h.set L[j] (List.getElem_mem hj)
   refine SetK.step ?_ st
   unfold SetK at this ⊢
   simp only[hsa.1,hsa.2.1,hsa.2.2]
   exact this
theorem row_op{b n cap:Nat}(h:w.ownsRow (mb+1) 52 8 (.slice (some ⟨b,0,none⟩) n cap) n (rowO L))(j:Nat)(hj:j<L.length):OCells w ⟨b,j*8,none⟩ L[j].1:=by
 have hn:L.length*8=n*8:=by rw[← rowO_len L];exact h.1
 have e:∀i,i<8→w.cell? ⟨b,j*8+i,none⟩=(opL L[j].1)[i]? :=fun i hi=>by
  have:=World.ownsRow.cellAt h (j*8+i) (by omega)
  rw[← rowO_get L j hj i hi]
  exact this
 exact⟨e 0 (by omega),e 1 (by omega),e 2 (by omega),e 3 (by omega),e 4 (by omega),e 5 (by omega),e 6 (by omega),e 7 (by omega)⟩
def opsJ(lab:List Nat)(l:List PO)(j:Nat):List PO:=(l.take j).map (setl lab)++l.drop j
theorem opsJ_len(lab:List Nat)(l:List PO)(j:Nat):(opsJ lab l j).length=l.length:=by unfold opsJ;simp;omega
theorem opsJ_at{lab:List Nat}{l:List PO}{j:Nat}(hj:j<l.length):(opsJ lab l j)[j]? =some l[j]:=by
 unfold opsJ
 rw[List.getElem?_append_right (by simp;omega)]
 simp[Nat.min_eq_left (Nat.le_of_lt hj),hj]
theorem opsJ_set{lab:List Nat}{l:List PO}{j:Nat}(hj:j<l.length):(opsJ lab l j).set j (setl lab l[j])=opsJ lab l (j+1):=by
 unfold opsJ
 rw[List.set_append_right _ _ (by simp;omega),List.drop_eq_getElem_cons hj]
 rw[show j - (List.map (setl lab) (l.take j)).length=0 by simp;omega,List.set_cons_zero,List.take_add_one,List.getElem?_eq_getElem hj]
 simp only[Option.toList_some,List.map_append,List.map_cons,List.map_nil,List.append_assoc,List.cons_append,List.nil_append]
theorem opsJ_zero(lab:List Nat)(l:List PO):opsJ lab l 0=l:=by simp[opsJ]
theorem opsJ_all(lab:List Nat)(l:List PO):opsJ lab l l.length=l.map (setl lab):=by simp[opsJ]
theorem roles{d:Int}{f:FV}(h:fvOf d=some f):(toOp d=decide (f.to=1))∧(otOp d=decide (f.other=1)):=by
 unfold fvOf at h
 split at h
 ·rename_i hr
  have hc:d=1∨d=2∨d=3∨d=4∨d=5∨d=6∨d=7∨d=8∨d=9∨d=10∨d=11∨d=12∨d=13∨d=14∨d=15:=by omega
  rcases hc with e|e|e|e|e|e|e|e|e|e|e|e|e|e|e<;>(rw[e]at h ⊢;simp[fvL]at h;subst h;decide)
 ·cases h
theorem has_op{n:Nat}{g c z:Int}{r:Int}(hr:r=1)(h:hasB r n g c z=true):0≤z∧z<n:=by
 unfold hasB at h
 rw[if_pos hr]at h
 simpa using h
theorem lab_cell{b cap:Nat}{l:List Nat}(h:w.ownsRow (mb+1) 3 1 (.slice (some ⟨b,0,none⟩) l.length cap) l.length (labV l)){z:Int}(h0:0≤z)(h1:z<l.length):w.cell? ⟨b,z.toNat,none⟩=some (.int .i64 ((l.getD z.toNat 0:Nat):Int)):=by
 have hz:z.toNat<l.length:=by omega
 rw[World.ownsRow.cellAt h z.toNat (by omega)]
 simp[labV,hz]
variable {w w' : World} {mb : Nat} {g : Int} {s s' : MS} {ov lv : Value} {L : OpL}
theorem map_keep{mp b i:Nat}{v:Value}{es:Array MapEntry}{c:Nat}{cs:Array Value}{e:TypeId}{fr:Nat×Nat}(h:w.heap[mp]? =some (.map es c))(hb:w.heap[b]? =some (.cells cs e fr)):(w.setCell ⟨b,i,none⟩ v).heap[mp]? =some (.map es c):=by
 rw[Below.heap_setCell _ _ _ _ (by
  show mp≠b
  rintro rfl
  rw[h]at hb
  cases hb)]
 exact h
theorem own_blkc{B e k n b cap:Nat}{xs:List Value}(h:w.ownsRow B e k (.slice (some ⟨b,0,none⟩) n cap) n xs):∃cur,w.heap[b]? =some (.cells cur e (0,0)):=by
 rcases h.2 with⟨h0,_⟩|⟨b',cap',cur,hv,_,hh,_⟩
 ·cases h0
 ·cases hv;exact⟨cur,hh⟩
structure SetE(mb:Nat)(g:Int)(s:MS)(l:List PO)(b cap mp:Nat)(lv:Value)(w0 w:World)(L:OpL):Prop where
 mv:MV w mb g { s with ops:=l } (.slice (some ⟨b,0,none⟩) s.ops.length cap) lv L
 st:Step mb w0 w
 mp:w.heap[mp]? =some (.map (fvE 0 fvL).toArray 15)
theorem SetE.drew{w0:World}{l:List PO}{b cap mp:Nat}(h:SetE mb g s l b cap mp lv w0 w L):SetE mb g s l b cap mp lv w0 w.drew L:=
 ⟨h.mv.drew,h.st.trans (Step.of_below (drew1 w) h.mv.lt),h.mp⟩
theorem SetE.len{w0:World}{l:List PO}{b cap mp:Nat}(h:SetE mb g s l b cap mp lv w0 w L):L.length=l.length:=by
 have:=congrArg List.length h.mv.str
 simpa using this
theorem SetE.put{w0:World}{b cap mp:Nat}{l:List PO}{j:Nat}{o:OpV}{S:RL}(h:SetE mb g s l b cap mp lv w0 w L)(hl:l.length=s.ops.length)(hj:j<L.length)(hLj:L[j]=(o,S))(o':OpV)(i:Nat)(v:Value)(hi:i<8)(he:opL o'=(opL o).set i v)(hsa:o'.sa=o.sa∧o'.sl=o.sl∧o'.sc=o.sc):SetE mb g s (l.set j (stripO (o',S))) b cap mp lv w0 (w.setCell ⟨b,j*8+i,none⟩ v) (L.set j (o',S)):=by
 have h':MV w mb g { s with ops:=l } (.slice (some ⟨b,0,none⟩) ({ s with ops:=l }:MS).ops.length cap) lv L:=by
  show MV _ _ _ _ (.slice _ l.length _) _ _
  rw[hl];exact h.mv
 obtain⟨a1,a2⟩:=h'.putO j hj o' i v hi (by rw[hLj];exact he) (by rw[hLj];exact hsa)
 obtain⟨cur,hc⟩:=own_blkc h'.ops
 refine⟨?_,h.st.trans a2,map_keep h.mp hc⟩
 rw[hLj]at a1
 have e:({ s with ops:=l }:MS).ops.length=s.ops.length:=hl
 rw[e]at a1
 exact a1
theorem SetE.op{w0:World}{b cap mp:Nat}{l:List PO}{j:Nat}{o:OpV}{S:RL}(h:SetE mb g s l b cap mp lv w0 w L)(hl:l.length=s.ops.length)(hj:j<L.length)(hLj:L[j]=(o,S)):OCells w ⟨b,j*8,none⟩ o:=by
 have h':=h.mv.ops
 have e:({ s with ops:=l }:MS).ops.length=s.ops.length:=hl
 rw[e]at h'
 have:=row_op h' j hj
 rw[hLj]at this
 exact this
theorem SetE.lab{w0:World}{b cap mp lb lc:Nat}{l:List PO}(h:SetE mb g s l b cap mp (.slice (some ⟨lb,0,none⟩) s.lab.length lc) w0 w L){z:Int}(h0:0≤z)(h1:z<s.lab.length):w.cell? ⟨lb,z.toNat,none⟩=some (.int .i64 ((s.lab.getD z.toNat 0:Nat):Int)):=lab_cell h.mv.lab h0 h1
theorem SetE.free{w0:World}{b cap mp:Nat}{l:List PO}(h:SetE mb g s l b cap mp lv w0 w L)(hl:l.length=s.ops.length)(i:Nat):w.frozen? ⟨b,i,none⟩=false:=by
 have h':=h.mv.ops
 have e:({ s with ops:=l }:MS).ops.length=s.ops.length:=hl
 rw[e]at h'
 obtain⟨cur,hc⟩:=own_blkc h'
 simp[World.frozen?,hc]
theorem settle_any(h:MB w mb g s)(hP:∀o∈s.ops,opE s.lab.length g s.cnt (emb o)=0)(h0:0<s.ops.length)(hn:s.ops.length≤20000):Calls prog 44 #[.pointer (some ⟨mb,0,none⟩)] w fun e w'=>MkE mb g { s with ops:=s.ops.map (setl s.lab) } w e w':=by
 obtain⟨ov,lv,L0,hm⟩:=h
 obtain⟨b,cap,rfl⟩:=own_some hm.ops h0
 have hlt:=hm.lt
 have HFd:=hide (fieldsByDo_raw w)
 obtain⟨w1,hw1⟩:=named (w.alloc (.map (fvE 0 fvL).toArray 15))
 rw[← hw1]at HFd
 have hb1:Below w.heap.size w w1:=by rw[hw1];exact allocB _ _
 have hmp:w1.heap[w.heap.size]? =some (.map (fvE 0 fvL).toArray 15):=by rw[hw1];exact at_new _ _
 obtain⟨mp,hmpe⟩:=named w.heap.size
 rw[← hmpe]at HFd hmp
 have hm1:=hm.keep hb1
 have HE0:Hid (SetE mb g s (opsJ s.lab s.ops 0) b cap mp lv w w1 L0):=⟨by rw[opsJ_zero];exact hm1,Step.of_below hb1 hlt,hmp⟩
 have HP:=hide hP
 obtain⟨n,hne⟩:=named s.ops.length
 have HN:=hide hne
 obtain⟨c0, -, -,c3⟩:=hm1.rd
 rw[← hne]at c0 hn
 obtain⟨lo,lc,hlv⟩:=own_shape hm.lab
 obtain⟨nl,hnl⟩:=named s.lab.length
 have HNL:=hide hnl
 have HLS:Hid (0<s.lab.length→∃lb,lo=some ⟨lb,0,none⟩):=fun hp=>by
  obtain⟨lb,lc',e⟩:=own_some hm.lab hp
  rw[hlv]at e
  cases e
  exact⟨lb,rfl⟩
 rw[← hnl]at hlv
 rw[hlv]at c3
 have HLV:=hide hlv
 clear hm hP hw1 hb1 hmp hm1 h0 hne hlv hnl hmpe
 go_enter func44,ntmps44
 go_wp2_with fail
 refine HFd.out.mono ?_
 rintro e w1' ⟨rfl,hw'⟩
 have hw1':=hw'.symm
 subst hw1'
 clear HFd
 go_wp2
 go_loopw [12] (fun v wr=>∃(j:Nat) (L:OpL),j≤n∧v=.int .i64 (j:Int)∧SetE mb g s (opsJ s.lab s.ops j) b cap mp lv w wr L) (fun v _=>n - (intOf v).toNat)
 case atStart=>exact⟨0,L0,Nat.zero_le _,rfl,HE0.out⟩
 case round=>
  obtain⟨j,L,hj,rfl,hE⟩:=hrel
  obtain⟨w5,hw5⟩:=named wr
  subst hw5
  clear c0 c3
  by_cases hlt2:j<n
  ·have e1:(0:Int)≤(j:Int):=by omega
   have e2:(j:Int)<(n:Int):=by omega
   have hjw:IntKind.i64.wrap ((j:Int)+1)=(j:Int)+1:=by rw[IntKind.wrap_i64];omega
   have hol:∀i,(opsJ s.lab s.ops i).length=s.ops.length:=fun i=>opsJ_len _ _ _
   have hjs:j<s.ops.length:=by have:=HN.out;omega
   have hjL:j<L.length:=by rw[hE.len,hol];exact hjs
   obtain⟨o,S,hoS⟩:∃o S,L[j]=(o,S):=⟨_,_,rfl⟩
   have hop:stripO (o,S)=s.ops[j]:=by
    have h1:(L.map stripO)[j]? =some s.ops[j]:=by rw[hE.mv.str];exact opsJ_at hjs
    rw[List.getElem?_map,List.getElem?_eq_getElem hjL,hoS]at h1
    exact Option.some.inj h1
   have hok:=HP.out s.ops[j] (List.getElem_mem hjs)
   rw[← hop]at hok
   obtain⟨f,hf1, -, -,hf4⟩:=opE_ok hok
   have hf1:fvOf o.dn=some f:=hf1
   have hro:=roles hf1
   unfold rangeB at hf4
   simp only[Bool.and_eq_true]at hf4
   have hto:f.to=1→0≤o.to∧o.to<s.lab.length:=fun h=>has_op h hf4.1
   have hot:f.other=1→0≤o.other∧o.other<s.lab.length:=fun h=>has_op h hf4.2.1
   have HSL:Hid (setl s.lab (stripO (o,S))=⟨o.dn,S,if decide (f.to=1)=true then(s.lab.getD o.to.toNat 0:Nat)else o.to,if decide (f.other=1)=true then(s.lab.getD o.other.toNat 0:Nat)else o.other,o.kind,o.least,o.fold,o.back⟩):=by
    show _=_
    unfold setl
    have e1:toOp (stripO (o,S)).dn=decide (f.to=1):=hro.1
    have e2:otOp (stripO (o,S)).dn=decide (f.other=1):=hro.2
    rw[e1,e2]
    rfl
   have HNX:Hid ((opsJ s.lab s.ops j).set j (setl s.lab (stripO (o,S)))=opsJ s.lab s.ops (j+1)):=by show _=_;rw[hop];exact opsJ_set hjs
   have hSame:(opsJ s.lab s.ops j).set j (stripO (o,S))=opsJ s.lab s.ops j:=by
    rw[hop]
    refine List.ext_getElem? fun i=>?_
    rw[List.getElem?_set]
    split
    ·rename_i hi
     subst hi
     rw[opsJ_at hjs]
     simp[hol,hjs]
    ·rfl
   have HSame:=hide hSame
   have HOL:=hide hol
   have HOS:=hide hoS
   have HJL:=hide hjL
   have HTo:=hide hto
   have HOt:=hide hot
   have HE5:=hide hE
   obtain⟨c0, -, -,c3⟩:=hE.mv.rd
   rw[← HN.out]at c0
   rw[HLV.out]at c3
   have hlook:=look_run' w5 mp o.dn hE.mp
   rw[hf1]at hlook
   simp only[Option.getD_some]at hlook
   obtain⟨y0,y1,y2,y3,y4,y5,y6,y7⟩:=hE.op (hol j) hjL hoS
   have fz:=hE.free (hol j)
   have hb2:=own_ge (by have h':=hE.mv.ops;rw[show ({ s with ops:=opsJ s.lab s.ops j }:MS).ops.length=s.ops.length from hol j]at h';exact h')
   have hlt5:=hE.mv.lt
   have hfd0:∀W:World,(Instr.field 96 (.agg #[.int .i64 f.to,.int .i64 f.other,.bool f.set,.bool f.kind,.bool f.least,.bool f.fold,.bool f.back]) 0).run prog W=.ok (.int .i64 f.to) W:=fun W=>by first|rfl|kernel_rfl
   have hfd1:∀W:World,(Instr.field 96 (.agg #[.int .i64 f.to,.int .i64 f.other,.bool f.set,.bool f.kind,.bool f.least,.bool f.fold,.bool f.back]) 1).run prog W=.ok (.int .i64 f.other) W:=fun W=>by first|rfl|kernel_rfl
   have HF1:=hide hf1
   clear hE hf1 hf4 hok hro hto hot hop hol hjs hoS hSame hlt2
   by_cases q1:f.to=1
   ·have hb:=HTo.out q1
    have bq1:(f.to==1)=true:=by simpa using q1
    obtain⟨lb,hlb⟩:=HLS.out (by omega)
    have hlc:=HE5.out
    rw[HLV.out,hlb,HNL.out]at hlc
    have z3:=hlc.lab hb.1 hb.2
    obtain⟨tv,htv⟩:=named (s.lab.getD o.to.toNat 0)
    have HTV:=hide htv
    rw[← htv]at z3
    have hc3:=c3
    rw[hlb]at hc3
    have e3:(0:Int)≤o.to:=hb.1
    have e4:o.to<(nl:Int):=by have:=HNL.out;omega
    obtain⟨o1,ho1⟩:=named (({ o with to:=(tv:Int) }:OpV))
    have hpt:=(HE5.out.put (HOL.out j) HJL.out HOS.out { o with to:=(tv:Int) } 2 (.int .i64 (tv:Int)) (by omega) rfl ⟨rfl,rfl,rfl⟩).drew
    rw[← ho1]at hpt
    obtain⟨w6,hw6⟩:=named ((w5.setCell ⟨b,j*8+2,none⟩ (.int .i64 (tv:Int))).drew)
    rw[← hw6]at hpt
    have HE6:=hide hpt
    have HL6:Hid (((opsJ s.lab s.ops j).set j (stripO (o1,S))).length=s.ops.length):=by show _=_;rw[List.length_set];exact HOL.out j
    have HJ6:Hid (j<(L.set j (o1,S)).length):=by show _<_;rw[List.length_set];exact HJL.out
    have HO6:Hid ((L.set j (o1,S))[j]'HJ6.out=(o1,S)):=List.getElem_set_self _
    clear hlc htv hb hpt
    go_upto_region 6 with fail
    go_region
    rw[← hw6]
    clear hw6 z3 hc3 y0 y1 y2 y3 y4 y5 y6 y7 c0 hlook fz hlt5 e3 e4
    have c3x:=c3
    clear c3
    obtain⟨c0, -, -,c3⟩:=HE6.out.mv.rd
    rw[← HN.out]at c0
    rw[HLV.out]at c3
    have hlook:=look_run' w6 mp o.dn HE6.out.mp
    rw[HF1.out]at hlook
    simp only[Option.getD_some]at hlook
    obtain⟨y0,y1,y2,y3,y4,y5,y6,y7⟩:=HE6.out.op HL6.out HJ6.out HO6.out
    rw[show o1.dn=o.dn by rw[ho1]]at y0
    rw[show o1.other=o.other by rw[ho1]]at y3
    have fz:=HE6.out.free HL6.out
    have hlt5:=HE6.out.mv.lt
    subst ho1
    clear c3x
    by_cases q2:f.other=1
    ·have hb:=HOt.out q2
     have bq2:(f.other==1)=true:=by simpa using q2
     obtain⟨lb,hlb⟩:=HLS.out (by omega)
     have hlc:=HE6.out
     rw[HLV.out,hlb,HNL.out]at hlc
     have z3:=hlc.lab hb.1 hb.2
     obtain⟨zv,hzv⟩:=named (s.lab.getD o.other.toNat 0)
     rw[← hzv]at z3
     rw[hlb]at c3
     have e3:(0:Int)≤o.other:=hb.1
     have e4:o.other<(nl:Int):=by have:=HNL.out;omega
     have hpt:=(HE6.out.put HL6.out HJ6.out HO6.out { ({ o with to:=(tv:Int) }:OpV)with other:=(zv:Int) } 3 (.int .i64 (zv:Int)) (by omega) rfl ⟨rfl,rfl,rfl⟩).drew
     have HG:Hid (SetE mb g s (opsJ s.lab s.ops (j+1)) b cap mp lv w (w6.setCell ⟨b,j*8+3,none⟩ (.int .i64 (zv:Int))).drew ((L.set j (({ o with to:=(tv:Int) }:OpV),S)).set j ({ ({ o with to:=(tv:Int) }:OpV)with other:=(zv:Int) },S))):=by
      have hx:=hpt
      rw[← HNX.out,HSL.out,if_pos (by simp[q1]),if_pos (by simp[q2])]
      rw[List.set_set]at hx
      rw[← hzv, ←HTV.out]
      exact hx
     clear hlc hpt hlb hzv hb
     go_upto_region 8 with fail
     go_region
     go_wp2
     go_roundw
     case rel=>exact⟨j+1,_,by omega,by go_num,HG.out⟩
     case measure=>simp[intOf];omega
    ·have bq2:(f.other==1)=false:=by simpa using q2
     have HG:Hid (SetE mb g s (opsJ s.lab s.ops (j+1)) b cap mp lv w w6 (L.set j (({ o with to:=(tv:Int) }:OpV),S))):=by
      have hx:=HE6.out
      rw[← HNX.out,HSL.out,if_pos (by simp[q1]),if_neg (by simp[q2]), ←HTV.out]
      exact hx
     go_wp2
     go_roundw
     case rel=>exact⟨j+1,_,by omega,by go_num,HG.out⟩
     case measure=>simp[intOf];omega
   ·have bq1:(f.to==1)=false:=by simpa using q1
    by_cases q2:f.other=1
    ·have hb:=HOt.out q2
     have bq2:(f.other==1)=true:=by simpa using q2
     obtain⟨lb,hlb⟩:=HLS.out (by omega)
     have hlc:=HE5.out
     rw[HLV.out,hlb,HNL.out]at hlc
     have z3:=hlc.lab hb.1 hb.2
     obtain⟨zv,hzv⟩:=named (s.lab.getD o.other.toNat 0)
     rw[← hzv]at z3
     rw[hlb]at c3
     have e3:(0:Int)≤o.other:=hb.1
     have e4:o.other<(nl:Int):=by have:=HNL.out;omega
     have hpt:=(HE5.out.put (HOL.out j) HJL.out HOS.out { o with other:=(zv:Int) } 3 (.int .i64 (zv:Int)) (by omega) rfl ⟨rfl,rfl,rfl⟩).drew
     have HG:Hid (SetE mb g s (opsJ s.lab s.ops (j+1)) b cap mp lv w (w5.setCell ⟨b,j*8+3,none⟩ (.int .i64 (zv:Int))).drew (L.set j ({ o with other:=(zv:Int) },S))):=by
      have hx:=hpt
      rw[← HNX.out,HSL.out,if_neg (by simp[q1]),if_pos (by simp[q2])]
      rw[← hzv]
      exact hx
     clear hlc hpt hlb hzv hb
     go_upto_region 8 with fail
     go_region
     go_wp2
     go_roundw
     case rel=>exact⟨j+1,_,by omega,by go_num,HG.out⟩
     case measure=>simp[intOf];omega
    ·have bq2:(f.other==1)=false:=by simpa using q2
     have HG:Hid (SetE mb g s (opsJ s.lab s.ops (j+1)) b cap mp lv w w5 L):=by
      have hx:=HE5.out
      rw[← HNX.out,HSL.out,if_neg (by simp[q1]),if_neg (by simp[q2])]
      have e5:(opsJ s.lab s.ops j).set j ⟨o.dn,S,o.to,o.other,o.kind,o.least,o.fold,o.back⟩=opsJ s.lab s.ops j:=HSame.out
      rw[e5]
      exact hx
     go_wp2
     go_roundw
     case rel=>exact⟨j+1,_,by omega,by go_num,HG.out⟩
     case measure=>simp[intOf];omega
  ·have hjm:j=n:=by omega
   have e2:¬(j:Int)<(n:Int):=by omega
   have HM:Hid (MB w5 mb g { s with ops:=s.ops.map (setl s.lab) }):=by
    have:=hE.mv
    rw[hjm,HN.out,opsJ_all]at this
    exact⟨_,_,L,this⟩
   have HST:=hide hE.st
   clear hE hlt2
   go_wp2
   go_end0
   exact⟨rfl,HM.out,HST.out⟩
variable {w w' : World} {mb : Nat} {g : Int} {s s' : MS} {ov lv : Value} {L : OpL}
theorem MV.opsC(h:MV w mb g s ov lv L):∃oa oc,ov=.slice oa s.ops.length oc∧OpsC w oa s.ops.length oc L:=by
 have hL:L.length=s.ops.length:=by have:=congrArg List.length h.str;simpa using this
 rcases h.ops.2 with⟨e,h0⟩|⟨b,cap,cur,e,hB,hh,hn,hm,_⟩
 ·refine⟨none,0,by rw[e,h0],.inl ⟨rfl,h0,rfl,List.eq_nil_of_length_eq_zero (by omega)⟩⟩
 ·refine ⟨some ⟨b,0,none⟩,cap,e,.inr ⟨⟨b,0,none⟩,rfl,hL.symm,⟨by omega,by unfold maxLen at hm;omega⟩,fun j hj=>⟨?_,?_⟩⟩⟩
  ·have ho:=h.ops
   rw[e]at ho
   have:=row_op ho j hj
   have e1:((⟨b,0,none⟩:Addr).add (j*8))=⟨b,j*8,none⟩:=by unfold Addr.add;split<;>simp_all
   rw[e1];exact this
  ·have hs:=h.set L[j] (List.getElem_mem hj)
   exact own_reads hs
theorem ret_prog{f:Func}{tmps:Array Value}{W:World}{N s:Nat}{oa:Option Addr}{ol oc:Nat}{g c:Int}{R:Ending→World→Prop}(hres:f.results=#[ResultVar.cell s 24])(h2:tmps[s]? =some (.pointer (some ⟨N,0,none⟩)))(hW:W.heap[N]? =some (prO oa ol oc g c))(hF:R (.returned (prV oa ol oc g c)) W):
  bodyPost prog f R Exit.ret { tmps:=tmps,defers:=[] } W:=by
 obtain⟨p0,p1,p2⟩:=pr_cells hW
 refine bodyPost_ret (v:=prV oa ol oc g c) ?_ rfl hF
 simp[results,hres,go_sem,h2,p0,p1,p2]
theorem ret_prog2{f:Func}{tmps:Array Value}{W:World}{N s a:Nat}{oa:Option Addr}{ol oc:Nat}{g c z:Int}{R:Ending→World→Prop}(hres:f.results=#[ResultVar.cell s 24,ResultVar.tmp a])(h2:tmps[s]? =some (.pointer (some ⟨N,0,none⟩)))(h3:tmps[a]? =some (.int .i64 z))(hW:W.heap[N]? =some (prO oa ol oc g c))(hF:R (.returned (.tuple #[prV oa ol oc g c,.int .i64 z])) W):
  bodyPost prog f R Exit.ret { tmps:=tmps,defers:=[] } W:=by
 obtain⟨p0,p1,p2⟩:=pr_cells hW
 refine bodyPost_ret (v:=.tuple #[prV oa ol oc g c,.int .i64 z]) ?_ rfl hF
 simp[results,hres,go_sem,h2,h3,p0,p1,p2]
abbrev pset(W:World)(N:Nat)(oa:Option Addr)(ol oc:Nat)(g c:Int):World:=((W.setCell ⟨N,0,none⟩ (.slice oa ol oc)).setCell ⟨N,1,none⟩ (.int .i64 g)).setCell ⟨N,2,none⟩ (.int .i64 c)
theorem pset_at{W:World}{N:Nat}{oa0:Option Addr}{ol0 oc0:Nat}{g0 c0:Int}(h:W.heap[N]? =some (prO oa0 ol0 oc0 g0 c0))(oa:Option Addr)(ol oc:Nat)(g c:Int):(pset W N oa ol oc g c).heap[N]? =some (prO oa ol oc g c):=by
 unfold pset
 rw[set_oneQ (set_oneQ (set_oneQ h _ _) _ _) _ _]
 simp
theorem pset_keep{W:World}{N b:Nat}(oa:Option Addr)(ol oc:Nat)(g c:Int)(h:b≠N):(pset W N oa ol oc g c).heap[b]? =W.heap[b]? :=by
 unfold pset
 have e:∀(W:World) (o:Nat) (v:Value),(W.setCell ⟨N,o,none⟩ v).heap[b]? =W.heap[b]? :=fun W o v=>Below.heap_setCell _ _ _ _ (by simpa using h)
 rw[e,e,e]
theorem pset_below{B N:Nat}{W:World}(h:Below B w W)(hB:B≤N)(oa:Option Addr)(ol oc:Nat)(g c:Int):Below B w (pset W N oa ol oc g c):=((h.setCell (p:=⟨N,0,none⟩) hB _).setCell (p:=⟨N,1,none⟩) hB _).setCell (p:=⟨N,2,none⟩) hB _
theorem OpsC.pset{W:World}{N:Nat}{oa0:Option Addr}{ol0 oc0:Nat}{g0 c0:Int}(hN:W.heap[N]? =some (prO oa0 ol0 oc0 g0 c0))(hm:N≠mb)(h:MV W mb g s ov lv L)(oa:Option Addr)(ol oc:Nat)(gg c:Int):MV (pset W N oa ol oc gg c) mb g s ov lv L:=by
 have h1:=h.other hN hm (by decide) (by decide) (by decide) 0 (.slice oa ol oc)
 have h2:=h1.other (set_oneQ hN 0 _) hm (by decide) (by decide) (by decide) 1 (.int .i64 gg)
 exact h2.other (set_oneQ (set_oneQ hN 0 _) 1 _) hm (by decide) (by decide) (by decide) 2 (.int .i64 c)
theorem MV.agree(h:MV w mb g s ov lv L)(hk:∀k,mb≤k→w'.heap[k]? =w.heap[k]?):MV w' mb g s ov lv L:=
 ⟨by rw[hk mb (leR _)];exact h.box,own_oth h.ops fun b hb _ cs hc=>by rw[hk b (by omega)];exact hc,own_oth h.lab fun b hb _ cs hc=>by rw[hk b (by omega)];exact hc,h.str,fun x hx=>own_oth (h.set x hx) fun b hb _ cs hc=>by rw[hk b (by omega)];exact hc⟩
def MadeE(t:Tr)(g:Int)(w:World)(e:Ending)(w':World):Prop:=∃oa oc L,e=.returned (prV oa (madeO t).length oc g (madeS t).cnt)∧(∀W,(∀k,w.heap.size≤k→W.heap[k]? =w'.heap[k]?)→OpsC W oa (madeO t).length oc L)∧L.map stripO=madeO t∧Below w.heap.size w w'
theorem made_any(n:NV)(t:Tr)(g:Int)(na:Option Addr)(nl nc:Nat)(w:World)(h:NodeC w n t)(hg:good t)(hz:szT t≤1000)(hP:Pok g (madeS t)):Calls prog 22 #[patNV n g na nl nc] w fun e w'=>MadeE t g w e w':=by
 have hby:=made_by hg hz
 obtain⟨w1,hw1⟩:=named ((w.alloc (patNO n g na nl nc)).alloc (prO none 0 0 0 0))
 have hb1:Below w.heap.size w w1:=by rw[hw1];exact two_below _ _ _
 have hx1:w1.heap[w.heap.size]? =some (patNO n g na nl nc):=by rw[hw1];exact at_old (at_new _ _)
 have hy1:w1.heap[w.heap.size+1]? =some (prO none 0 0 0 0):=by rw[hw1];exact at_new' _ _ (by simp)
 have hs1:w1.heap.size=w.heap.size+1+1:=by rw[hw1];simp
 obtain⟨w2,hw2⟩:=named (w1.alloc (mkO (.slice none 0 0) g 0 (.slice none 0 0)))
 have hb2:Below w1.heap.size w1 w2:=by rw[hw2];exact allocB _ _
 have hm2:w2.heap[w1.heap.size]? =some (mkO (.slice none 0 0) g 0 (.slice none 0 0)):=by rw[hw2];exact at_new _ _
 obtain⟨mb,hmb⟩:=named w1.heap.size
 rw[← hmb]at hm2
 have hM2:MB w2 mb g ⟨[],[],0⟩:=⟨_,_,[],hm2,World.ownsRow_nil _ _ _ _,World.ownsRow_nil _ _ _ _,rfl,fun _ h=>by cases h⟩
 have hbb:=hb1.andT hb2
 have hfit1:(mkT t ⟨[],[],0⟩).fits:=(le_add _ _).fits (s':=madeS t) hby
 have HC1:=hide (node_does (mb:=mb) (g:=g) h hg (by have:=hb1.size;omega) w2 hbb w2 _ (Step.refl _ _) hM2 hfit1)
 have HX2:=hide (below_at hb2 hx1)
 have HY2:=hide (below_at hb2 hy1)
 have HB2:=hide hbb
 have HP:=hide hP
 have HBy:=hide hby
 have HF1:=hide hfit1
 obtain⟨⟨d0,d1,d2,d3,d4,d5,d6,d7⟩,d8,d9⟩:=patN_cells hx1
 simp only[Nat.zero_add]at d0 d1 d2 d3 d4 d5 d6 d7
 obtain⟨⟨f0,f1,f2,f3,f4,f5,f6,f7⟩,f8,f9⟩:=patN_cells HX2.out
 simp only[Nat.zero_add]at f0 f1 f2 f3 f4 f5 f6 f7
 obtain⟨pb,hpb⟩:=named w.heap.size
 rw[← hpb]at d0 d1 d2 d3 d4 d5 d6 d7 d8 d9 f0 f1 f2 f3 f4 f5 f6 f7 f8 f9 HX2 HY2 hs1
 have HPB:=hide hpb
 have HMB:Hid (mb=pb+1+1):=by show _=_;omega
 simp only[patNO,prO]at hw1
 simp only[mkO]at hw2
 rw[show (((0:Nat):Int))=0 from rfl]at hw2
 clear h hg hP hb1 hx1 hy1 hb2 hm2 hM2 hbb hfit1 hby hz
 go_enter func22,ntmps22
 go_upto_region 1 with fail
 rw[← hw1, ←hpb]
 clear hw1 hpb
 go_upto_region 2 with fail
 rw[← hw2, ←HMB.out]
 clear hw2 hmb hs1 d0 d1 d2 d3 d4 d5 d6 d7 d8 d9
 go_wp2_with fail
 refine HC1.out.mono ?_
 rintro e w3 ⟨rfl,h3,st3⟩
 have HT3:=hide st3
 have HC2:=hide (add0 h3 15 0 0 0 0 false false (by have:=HF1.out.1;omega))
 clear h3 st3 HC1 f0 f1 f2 f3 f4 f5 f6 f7 f8 f9
 go_wp2_with fail
 refine HC2.out.mono ?_
 rintro e w4 ⟨rfl,h4,st4⟩
 have HT4:=hide (HT3.out.trans st4)
 have HC3:=hide (settle_any (s:=madeS t) h4 HP.out.ops (by show 0<(MS.add _ _).ops.length;rw[z1];omega) (by have:=HBy.out.1;omega))
 clear h4 st4 HC2 HT3
 go_wp2_with fail
 refine HC3.out.mono ?_
 rintro e w5 ⟨rfl,h5,st5⟩
 have HT5:=hide (HT4.out.trans st5)
 clear HC3 HT4 st5
 obtain⟨ov,lv,L,h5⟩:=h5
 obtain⟨oa,oc,rfl,hops⟩:=h5.opsC
 have hlen:({ madeS t with ops:=(madeS t).ops.map (setl (madeS t).lab) }:MS).ops.length=(madeO t).length:=rfl
 obtain⟨c0,c1,c2, -⟩:=h5.rd
 rw[hlen]at c0
 have hcn:({ madeS t with ops:=(madeS t).ops.map (setl (madeS t).lab) }:MS).cnt=(madeS t).cnt:=rfl
 rw[hcn]at c2
 have hY5:w5.heap[pb+1]? =some (prO none 0 0 0 0):=by rw[HT5.out.low (pb+1) (by have:=HMB.out;omega)];exact HY2.out
 obtain⟨y0,y1,y2⟩:=pr_cells hY5
 have fz:∀i,w5.frozen? ⟨pb+1,i,none⟩=false:=fun i=>by simp[World.frozen?,hY5]
 have hm6:=OpsC.pset hY5 (by have:=HMB.out;omega) h5 oa (madeO t).length oc g (madeS t).cnt
 have hops':∀W,(∀k,w.heap.size≤k→W.heap[k]? =(pset w5 (pb+1) oa (madeO t).length oc g (madeS t).cnt).heap[k]?)→OpsC W oa (madeO t).length oc L:=fun W hW=>by
  obtain⟨oa',oc',he',ho'⟩:=(hm6.agree (w':=W) fun k hk=>hW k (by have:=HMB.out;have:=HPB.out;omega)).opsC
  rw[hlen]at he' ho'
  cases he'
  exact ho'
 have HR:Hid (MadeE t g w (.returned (prV oa (madeO t).length oc g (madeS t).cnt)) (pset w5 (pb+1) oa (madeO t).length oc g (madeS t).cnt)):=⟨oa,oc,L,rfl,hops',h5.str,pset_below (HB2.out.trans (HT5.out.below.mono (by have:=HMB.out;have:=HPB.out;omega))) (by have:=HPB.out;omega) _ _ _ _ _⟩
 have HZ:=hide (pset_at hY5 oa (madeO t).length oc g (madeS t).cnt)
 have hmp:pb+1<mb:=by have:=HMB.out;omega
 have hlt5:=h5.lt
 obtain⟨ml,hml⟩:=named ((madeO t).length)
 obtain⟨mc,hmc⟩:=named ((madeS t).cnt)
 rw[← hml]at c0 HR HZ
 rw[← hmc]at c2 HR HZ
 clear h5 hops hm6 hops' hlen hcn hY5 hml hmc
 go_wp2
 exact ret_prog rfl rfl HZ.out HR.out
theorem pat_tree{t:Tr}{g:Int}{N:NmL}(h:PatE t g N 0):treeE t g=0:=by
 rcases h with⟨_,h⟩|⟨h1,h⟩
 ·omega
 ·rcases h with⟨h2,h3⟩|⟨h2,_,h3⟩|⟨h2,_⟩
  ·exact h3.symm
  ·exact h2
  ·exact h2
theorem beh_zero{t:Tr}{g:Int}{N:NmL}(h:BehE t g N 0):treeE t g=0∧bhA t=true∧szT t≤1000∧good t:=by
 rcases h with⟨_,h⟩|⟨h1,h2⟩
 ·exact absurd rfl h
 ·refine ⟨pat_tree h1,?_,cntA_sz (pat_right h1).1,(pat_right h1).2⟩
  cases hb:bhA t with
  |true=>rfl
  |false=>rw[hb]at h2;exact absurd h2 (by decide)
def MakeE(t:Tr)(g:Int)(N:NmL)(w:World)(e:Ending)(w':World):Prop:=∃z,BehE t g N z∧Below w.heap.size w w'∧((z≠0∧e=.returned (.tuple #[prV none 0 0 0 0,.int .i64 z]))∨(z=0∧∃oa oc L,e=.returned (.tuple #[prV oa (madeO t).length oc g (madeS t).cnt,.int .i64 0])∧OpsC w' oa (madeO t).length oc L∧L.map stripO=madeO t))
theorem make_any(n:NV)(t:Tr)(g:Int)(na:Option Addr)(nl nc:Nat)(N:NmL)(w:World)(h:NodeC w n t)(hNm:NamesC w (.slice na nl nc) N):Calls prog 8 #[patNV n g na nl nc] w fun e w'=>MakeE t g N w e w':=by
 obtain⟨w1,hw1⟩:=named ((w.alloc (patNO n g na nl nc)).alloc (prO none 0 0 0 0))
 have hb1:Below w.heap.size w w1:=by rw[hw1];exact two_below _ _ _
 have hx1:w1.heap[w.heap.size]? =some (patNO n g na nl nc):=by rw[hw1];exact at_old (at_new _ _)
 have hy1:w1.heap[w.heap.size+1]? =some (prO none 0 0 0 0):=by rw[hw1];exact at_new' _ _ (by simp)
 have HC1:=hide (factsCheck_any n t g na nl nc N w1 (h.keep hb1) (hNm.below hb1))
 have HNd:=hide (fun W (hW:Below w.heap.size w W)=>h.keep hW)
 have HB1:=hide hb1
 have HX1:=hide hx1
 have HY1:=hide hy1
 obtain⟨⟨d0,d1,d2,d3,d4,d5,d6,d7⟩,d8,d9⟩:=patN_cells hx1
 simp only[Nat.zero_add]at d0 d1 d2 d3 d4 d5 d6 d7
 simp only[patNO,prO]at hw1
 clear h hNm hb1 hx1 hy1
 go_enter func8,ntmps8
 go_upto_region 1 with fail
 rw[← hw1]
 clear hw1
 go_wp2_with fail
 refine HC1.out.mono ?_
 rintro e w2 ⟨z,hz,rfl,hb2⟩
 have HB2:=hide (HB1.out.andT hb2)
 have HX2:=hide (below_at hb2 HX1.out)
 have HY2:=hide (below_at hb2 HY1.out)
 have HZ:=hide hz
 clear HC1 hb2 HX1 HY1 HB1 hz d0 d1 d2 d3 d4 d5 d6 d7 d8 d9
 by_cases hz0:z=0
 ·subst hz0
  obtain⟨ht0,hbh,hsz,hgood⟩:=beh_zero HZ.out
  have hP:=(made_pok ht0 hbh).2.add (op_match (n:=(mkT t ⟨[],[],0⟩).lab.length) (c:=(mkT t ⟨[],[],0⟩).cnt))
  have HC2:=hide (made_any n t g na nl nc w2 (HNd.out w2 HB2.out) hgood hsz hP)
  obtain⟨⟨d0,d1,d2,d3,d4,d5,d6,d7⟩,d8,d9⟩:=patN_cells HX2.out
  simp only[Nat.zero_add]at d0 d1 d2 d3 d4 d5 d6 d7
  clear ht0 hbh hsz hgood hP
  go_wp2_with fail
  refine HC2.out.mono ?_
  rintro e w3 ⟨oa,oc,L,rfl,hops,hstr,hb3⟩
  have hY3:=below_at hb3 HY2.out
  obtain⟨y0,y1,y2⟩:=pr_cells hY3
  have fz:∀i,w3.frozen? ⟨w.heap.size+1,i,none⟩=false:=fun i=>by simp[World.frozen?,hY3]
  have HB3:=hide (HB2.out.andT hb3)
  have HZ3:=hide (pset_at hY3 oa (madeO t).length oc g (madeS t).cnt)
  have hlt3:=lt_of_block hY3
  have HR:Hid (MakeE t g N w (.returned (.tuple #[prV oa (madeO t).length oc g (madeS t).cnt,.int .i64 0])) (pset w3 (w.heap.size+1) oa (madeO t).length oc g (madeS t).cnt)):=by
   refine⟨0,HZ.out,pset_below HB3.out (by omega) _ _ _ _ _,.inr ⟨rfl,oa,oc,L,rfl,?_,hstr⟩⟩
   exact hops _ fun k hk=>pset_keep _ _ _ _ _ (by have h5:=HB2.out.size;have h6:=lt_of_block HY2.out;omega)
  obtain⟨ml,hml⟩:=named ((madeO t).length)
  obtain⟨mc,hmc⟩:=named ((madeS t).cnt)
  rw[← hml, ←hmc]at HR HZ3 ⊢
  clear hops hstr hb3 hY3 hml hmc HC2 d0 d1 d2 d3 d4 d5 d6 d7 d8 d9
  go_wp2
  exact ret_prog2 rfl rfl rfl HZ3.out HR.out
 ·obtain ⟨y0,y1,y2⟩:=pr_cells HY2.out
  have fz:∀i,w2.frozen? ⟨w.heap.size+1,i,none⟩=false:=fun i=>by simp[World.frozen?,HY2.out]
  have HZ3:=hide (pset_at HY2.out none 0 0 0 0)
  have hlt3:=lt_of_block HY2.out
  have HR:Hid (MakeE t g N w (.returned (.tuple #[prV none 0 0 0 0,.int .i64 z])) (pset w2 (w.heap.size+1) none 0 0 0 0)):=⟨z,HZ.out,pset_below HB2.out (by omega) _ _ _ _ _,.inl ⟨hz0,rfl⟩⟩
  have bz:(z==0)=false:=by simpa using hz0
  have bz2:(z !=0)=true:=by simpa using hz0
  go_wp2
  exact ret_prog2 rfl rfl rfl HZ3.out HR.out
end Go.Proofs.YtfnndcbjklppeaaGreatDoor.Mk
namespace Go.Proofs.YtfnndcbjklppeaaGreatDoor.Mk
open Go.RowKit Go.PlainAid
theorem opE_emb{n:Nat}{g c:Int}{x:OpV×RL}(h:x.1.sl=x.2.length):opE n g c x=opE n g c (emb (stripO x)):=by
 obtain⟨⟨dn,sa,sl,sc,to,other,kind,least,fold,back⟩,S⟩:=x
 simp only at h
 subst h
 rfl
theorem opsE_emb{n:Nat}{g c:Int}:∀{L:OpL},(∀x∈L,x.1.sl=x.2.length)→opsE n g c L=opsE n g c ((L.map stripO).map emb)
 |[],_=>rfl
 |x::r,h=>by
  have h1:opE n g c x=opE n g c (emb (stripO x)):=opE_emb (h x (by simp))
  have h2:=opsE_emb (n:=n) (g:=g) (c:=c) (L:=r) (fun y hy=>h y (by simp[hy]))
  show(if opE n g c x≠0 then opE n g c x else opsE n g c r)=if opE n g c (emb (stripO x))≠0 then opE n g c (emb (stripO x))else opsE n g c ((r.map stripO).map emb)
  rw[h1,h2]
theorem endB_emb{L:OpL}:endB L=endB ((L.map stripO).map emb):=by
 unfold endB
 simp only[List.length_map,List.getElem?_map]
 cases L[L.length - 1]? with
 |none=>rfl
 |some x=>rfl
theorem progE_emb{n:Nat}{g c:Int}{L:OpL}(h:∀x∈L,x.1.sl=x.2.length):progE n g c L=progE n g c ((L.map stripO).map emb):=by
 unfold progE
 rw[opsE_emb h,endB_emb]
theorem reads_sl{w:World}{a:Option Addr}{l c:Nat}{S:RL}(h:Reads w (.slice a l c) S):l=S.length:=by
 rcases h with⟨h1,h2⟩|⟨x,c',h1,_⟩
 ·simp only[Value.slice.injEq]at h1
  rw[h2];exact h1.2.1
 ·simp only[Value.slice.injEq]at h1
  exact h1.2.1
theorem OpsC.sl{w:World}{oa:Option Addr}{ol oc:Nat}{L:OpL}(h:OpsC w oa ol oc L):∀x∈L,x.1.sl=x.2.length:=by
 rcases h with⟨_,_,_,rfl⟩|⟨x,h1,h2,hm,h3⟩
 ·intro x hx;simp at hx
 ·intro y hy
  obtain⟨j,hj,rfl⟩:=List.getElem_of_mem hy
  exact reads_sl (h3 j hj).2
theorem made_passes{w:World}{t:Tr}{g:Int}{oa:Option Addr}{oc:Nat}{L:OpL}(h:treeE t g=0)(hz:szT t≤1000)(hb:bhA t=true)(hgood:good t)(hO:OpsC w oa (madeO t).length oc L)(hL:L.map stripO=madeO t):progE (madeO t).length g (madeS t).cnt L=0:=by
 rw[progE_emb (OpsC.sl hO),hL]
 exact made_ok h hz hb hgood
theorem op_at{w:World}{oa:Option Addr}{oc:Nat}{L:OpL}{P:List PO}(hO:OpsC w oa P.length oc L)(hL:L.map stripO=P)(hP:0<P.length):∃x,oa=some x∧(P.length≤oc∧oc≤9223372036854775807)∧∀k (hk:k<P.length),∃so:Option Addr×Nat×Nat,OCells w (x.add (k*8)) ⟨P[k].dn,so.1,so.2.1,so.2.2,P[k].to,P[k].other,P[k].kind,P[k].least,P[k].fold,P[k].back⟩∧Reads w (.slice so.1 so.2.1 so.2.2) P[k].set:=by
 subst hL
 rcases hO with⟨_,h1,_,_⟩|⟨x,h1,h2,hm,h3⟩
 ·omega
 ·refine ⟨x,h1,⟨by simpa using hm.1,hm.2⟩,fun k hk=>?_⟩
  have hk':k<L.length:=by simpa using hk
  obtain⟨q1,q2⟩:=h3 k hk'
  refine⟨(L[k].1.sa,L[k].1.sl,L[k].1.sc),?_,?_⟩
  ·simp only[List.getElem_map,stripO]
   exact q1
  ·simp only[List.getElem_map,stripO]
   exact q2
end Go.Proofs.YtfnndcbjklppeaaGreatDoor.Mk
