import Derived.Test.YtklbbbldalmnbaaGreatDoorKE
set_option maxHeartbeats 8000000
set_option linter.unusedVariables false
open Go.Proofs.Tryz
namespace Go.Proofs.YtklbbbldalmnbaaGreatDoor.TK
open Go.RowKit
theorem qV{b:Nat}{x:Addr}{c:Nat}{l:List Int}{i:Nat}{d:Int}(f:Int)(w:World)(h:RB w b x c l i d):Calls prog 127 #[.pointer (some ⟨b,0,none⟩),.int .i64 f] w fun e w'=>mV b x c l d w (gV l i f) e w':=by
 have hlt:=h.lt
 have hxw:=h.xw
 have hat:=h.at'
 have hw0:=h.alloc (aq {})
 cases hs:bk l i [41]with
 |true=>
  have HS:=I (gB _ hw0 41 hs)
  have hE:Hid (gV l i f=.ok ({ kind:=11,fold:=f },i+1)):=by show _=_;unfold gV;rw[if_pos hs]
  clear hs h hw0
  go_enter func127,ntmps127
  go_wp2_with fail
  simp only[aq,World.size_alloc]at HS
  refine HS.o.mono ?_
  rintro e w1 ⟨rfl,hr,hm⟩
  have hN:w1.heap[w.heap.size]? =some (aq {}):=hm.aC (aj _ _) (by omega)
  obtain⟨m0,m1,m2,m3,m4,m5,m6,m7⟩:=ai hN
  have fr0:=au hN
  have hq0:w.heap.size<w1.heap.size:=lt_of_block hN
  have hq1:¬w.heap.size=w1.heap.size:=by omega
  have hq2:¬w1.heap.size=w.heap.size:=by omega
  have HRR:=I hr
  have HMM:=I hm
  clear hr hm HS
  go_wp21
  go_wp21
  go_wp21
  exact aK (N:=w.heap.size) rfl rfl (aI hN { kind:=11,fold:=f }) (.inl ⟨{ kind:=11,fold:=f },(i+1),hE.o,rfl,HRR.o.tok (by omega) (by omega) _ _ _ _ _ _ _ _,Mv.tok (((Mv.refl b w).alloc _).trans HMM.o) (U _) _ _ _ _ _ _ _ _⟩)
 |false=>
  have HS:=I (iR _ hw0 41 hs)
  cases hs2:bk l i [58]with
  |true=>
   have hE:Hid (gV l i f=.ok ({ kind:=7,num:=1,fold:=f },i+1)):=by show _=_;unfold gV;rw[if_neg (by rw[hs];simp),if_pos hs2]
   have HM2:=I (fun w1 (h1:RB w1 b x c l i d)=>bQ 58 w1 h1 hs2)
   clear hs hs2 h hw0
   go_enter func127,ntmps127
   go_wp2_with fail
   simp only[aq,World.size_alloc]at HS
   refine HS.o.mono ?_
   rintro e w1 ⟨rfl,hr,hm⟩
   go_wp2_with fail
   refine(HM2.o w1 hr).mono ?_
   rintro e w2 ⟨rfl,hr2,hm2⟩
   go_wp2_with fail
   refine(eO 1 w2).mono ?_
   rintro e w3 ⟨rfl,hb3⟩
   have hr3:=hr2.ar hb3
   have hm3:=(hm.trans hm2).trans (Mv.ae hb3)
   have hx3:=hr3.xw
   have hl3:=hr3.lt
   have hN:w3.heap[w.heap.size]? =some (aq {}):=hm3.aC (aj _ _) (by omega)
   obtain⟨m0,m1,m2,m3,m4,m5,m6,m7⟩:=ai hN
   have fr0:=au hN
   have hq0:w.heap.size<w3.heap.size:=lt_of_block hN
   have hq1:¬w.heap.size=w3.heap.size:=by omega
   have hq2:¬w3.heap.size=w.heap.size:=by omega
   have HRR:=I hr3
   have HMM:=I hm3
   clear hr3 hm3 hr hm hr2 hm2 hb3 HS HM2
   simp only[aZ,aR]
   go_wp21
   go_wp21
   go_wp21
   exact aK (N:=w.heap.size) rfl rfl (ba (aI hN { kind:=7,num:=1,fold:=f })) (.inl ⟨{ kind:=7,num:=1,fold:=f },(i+1),hE.o,rfl,(HRR.o.tok (by omega) (by omega) _ _ _ _ _ _ _ _).alloc _,(Mv.tok (((Mv.refl b w).alloc _).trans HMM.o) (U _) _ _ _ _ _ _ _ _).alloc _⟩)
  |false=>
   have hE:Hid (gV l i f=.error 1):=by show _=_;unfold gV;rw[if_neg (by rw[hs];simp),if_neg (by rw[hs2];simp)]
   have HM2:=I (fun w1 (h1:RB w1 b x c l i d)=>cX 58 w1 h1 hs2)
   clear hs hs2 h hw0
   go_enter func127,ntmps127
   go_wp2_with fail
   simp only[aq,World.size_alloc]at HS
   refine HS.o.mono ?_
   rintro e w1 ⟨rfl,hr,hm⟩
   go_wp2_with fail
   refine(HM2.o w1 hr).mono ?_
   rintro e w2 ⟨rfl,hm2⟩
   have hm:=hm.trans hm2
   have HMM:=I hm
   clear hm
   simp only[bK]
   go_wp2
   exact⟨rfl,.inr ⟨1,hE.o,rfl,((Mv.refl b w).alloc _).trans HMM.o⟩⟩
theorem qo{b:Nat}{x:Addr}{c:Nat}{l:List Int}{i:Nat}{d:Int}(w:World)(h:RB w b x c l i d):Calls prog 126 #[.pointer (some ⟨b,0,none⟩)] w fun e w'=>mV b x c l d w (fT l i) e w':=by
 have hlt:=h.lt
 have hxw:=h.xw
 have hat:=h.at'
 have hw0:=h.alloc (aq {})
 cases hs:bk l i [61]with
 |true=>
  have HS:=I (gB _ hw0 61 hs)
  have hE:Hid (fT l i=.ok (aR 16,i+1)):=by show _=_;unfold fT;rw[if_pos hs]
  clear hs h hw0
  go_enter func126,ntmps126
  go_wp2_with fail
  simp only[aq,World.size_alloc]at HS
  refine HS.o.mono ?_
  rintro e w1 ⟨rfl,hr1,hm1⟩
  go_wp2_with fail
  refine(eO 16 w1).mono ?_
  rintro e w2 ⟨rfl,hb2⟩
  have hr:=hr1.ar hb2
  have hm:=hm1.trans (Mv.ae hb2)
  have hN:w2.heap[w.heap.size]? =some (aq {}):=hm.aC (aj _ _) (by omega)
  obtain⟨m0,m1,m2,m3,m4,m5,m6,m7⟩:=ai hN
  have fr0:=au hN
  have hq0:w.heap.size<w2.heap.size:=lt_of_block hN
  have hq1:¬w.heap.size=w2.heap.size:=by omega
  have hq2:¬w2.heap.size=w.heap.size:=by omega
  have HRR:=I hr
  have HMM:=I hm
  clear hr hm HS hr1 hm1 hb2
  simp only[aZ,aR]
  go_wp21
  go_wp21
  go_wp21
  exact aK (N:=w.heap.size) rfl rfl (aI hN (aR 16)) (.inl ⟨(aR 16),(i+1),hE.o,rfl,HRR.o.tok (by omega) (by omega) _ _ _ _ _ _ _ _,Mv.tok (((Mv.refl b w).alloc _).trans HMM.o) (U _) _ _ _ _ _ _ _ _⟩)
 |false=>
  have HS:=I (iR _ hw0 61 hs)
  cases hs2:bk l i [33]with
  |true=>
   have hE:Hid (fT l i=.ok (aR 17,i+1)):=by show _=_;unfold fT;rw[if_neg (by rw[hs];simp),if_pos hs2]
   have HS2:=I (fun w1 (h1:RB w1 b x c l i d)=>gB w1 h1 33 hs2)
   clear hs hs2 h hw0
   go_enter func126,ntmps126
   go_wp2_with fail
   simp only[aq,World.size_alloc]at HS
   refine HS.o.mono ?_
   rintro e w1 ⟨rfl,hr1,hm1⟩
   go_wp2_with fail
   refine(HS2.o w1 hr1).mono ?_
   rintro e w2 ⟨rfl,hr2,hm2⟩
   go_wp2_with fail
   refine(eO 17 w2).mono ?_
   rintro e w3 ⟨rfl,hb3⟩
   have hr:=hr2.ar hb3
   have hm:=(hm1.trans hm2).trans (Mv.ae hb3)
   have hN:w3.heap[w.heap.size]? =some (aq {}):=hm.aC (aj _ _) (by omega)
   obtain⟨m0,m1,m2,m3,m4,m5,m6,m7⟩:=ai hN
   have fr0:=au hN
   have hq0:w.heap.size<w3.heap.size:=lt_of_block hN
   have hq1:¬w.heap.size=w3.heap.size:=by omega
   have hq2:¬w3.heap.size=w.heap.size:=by omega
   have HRR:=I hr
   have HMM:=I hm
   clear hr hm HS HS2 hr1 hm1 hr2 hm2 hb3
   simp only[aZ,aR]
   go_wp21
   go_wp21
   go_wp21
   exact aK (N:=w.heap.size) rfl rfl (aI hN (aR 17)) (.inl ⟨(aR 17),(i+1),hE.o,rfl,HRR.o.tok (by omega) (by omega) _ _ _ _ _ _ _ _,Mv.tok (((Mv.refl b w).alloc _).trans HMM.o) (U _) _ _ _ _ _ _ _ _⟩)
  |false=>
   have HS2:=I (fun w1 (h1:RB w1 b x c l i d)=>iR w1 h1 33 hs2)
   have HNL:=I (Ey l i hat)
   have hE0:Hid (fT l i=(if bL l i=[]then .error 1 else if bk l (i+(bL l i).length) [62]then .ok ({ kind:=7,num:=11,text:=bE (bL l i) },i+(bL l i).length+1)else .error 1)):=by show _=_;unfold fT;rw[if_neg (by rw[hs];simp),if_neg (by rw[hs2];simp)]
   have HM3:=I (fun w1 k (h1:RB w1 b x c l k d) (hh:bk l k [62]=true)=>bQ 62 w1 h1 hh)
   have HM4:=I (fun w1 k (h1:RB w1 b x c l k d) (hh:bk l k [62]=false)=>cX 62 w1 h1 hh)
   clear hs hs2 h hw0
   go_enter func126,ntmps126
   go_wp2_with fail
   simp only[aq,World.size_alloc]at HS
   refine HS.o.mono ?_
   rintro e w1 ⟨rfl,hr1,hm1⟩
   go_wp2_with fail
   refine(HS2.o w1 hr1).mono ?_
   rintro e w2 ⟨rfl,hr2,hm2⟩
   go_wp2_with fail
   refine(eO 11 w2).mono ?_
   rintro e w3 ⟨rfl,hb3⟩
   have hr3:=hr2.ar hb3
   have hm3:=(hm1.trans hm2).trans (Mv.ae hb3)
   have hz3:w.heap.size+1<=w3.heap.size:=by have:=hm3.size;simpa using this
   clear hr1 hm1 hr2 hm2 hb3 HS HS2
   simp only[aZ,aR]
   have HN4:=I (uO _ (hr3.alloc (aq (aR 11))))
   simp only[aq,aR]at HN4
   go_wp2_with fail
   refine HN4.o.mono ?_
   rintro e w4 (⟨hnil,rfl,hm4⟩|⟨hnn,rfl,hr4,hm4⟩)
   ·have hm:=hm3.trans (((Mv.refl b w3).alloc _).trans hm4)
    have hE:Hid (fT l i=.error 1):=by show _=_;rw[hE0.o,if_pos hnil]
    have HMM:=I hm
    clear hm hr3 hm3 hm4 hnil HN4
    simp only[bK]
    go_wp2
    exact⟨rfl,.inr ⟨1,hE.o,rfl,((Mv.refl b w).alloc _).trans HMM.o⟩⟩
   ·have hlt3:=hr3.lt
    have hxw3:=hr3.xw
    have hT:w4.heap[w3.heap.size]? =some (aq (aR 11)):=hm4.aC (aj _ _) (by omega)
    have frT:=au hT
    obtain⟨n0,n1,n2,n3,n4,n5,n6,n7⟩:=ai hT
    have hE2:Hid (fT l i=(if bk l (i+(bL l i).length) [62]then .ok ({ kind:=7,num:=11,text:=bE (bL l i) },i+(bL l i).length+1)else .error 1)):=by show _=_;rw[hE0.o,if_neg hnn]
    obtain⟨S,hS⟩:∃S,S=bE (bL l i):=⟨_,rfl⟩
    obtain⟨k,hk⟩:∃k,k=i+(bL l i).length:=⟨_,rfl⟩
    rw[<- hS]at hE2 |-
    rw[<- hk]at hE2 hr4
    have hr5:=hr4.other (p:=⟨w3.heap.size,2,none⟩) (by simp;omega) (by simp;omega) (.string S)
    have hm5:=(hm3.trans (((Mv.refl b w3).alloc _).trans hm4)).fw (p:=⟨w3.heap.size,2,none⟩) (by simp;omega) (.string S)
    have hT5:(w4.setCell ⟨w3.heap.size,2,none⟩ (.string S)).heap[w3.heap.size]? =some (aq { aR 11 with text:=S }):=by
     rw[bd hT]
     simp[aq]
    have HT5:=I hT5
    clear hT5 hS hk hnn HN4 hE0 hr3 hm3 hr4 hm4
    cases hs3:bk l k [62]with
    |true=>
     have hE:Hid (fT l i=.ok ({ kind:=7,num:=11,text:=S },k+1)):=by show _=_;rw[hE2.o,if_pos hs3]
     have HM5:=I (HM3.o _ k hr5 hs3)
     clear hs3 hr5 HM3 HM4 hE2
     simp only[]
     go_wp2_with fail
     refine HM5.o.mono ?_
     rintro e w6 ⟨rfl,hr,hm6⟩
     have hm:=hm5.trans hm6
     have hT6:=hm6.aC HT5.o (by omega)
     obtain⟨p0,p1,p2,p3,p4,p5,p6,p7⟩:=ai hT6
     clear n0 n1 n2 n3 n4 n5 n6 n7 frT hT
     have hN:w6.heap[w.heap.size]? =some (aq {}):=hm.aC (aj _ _) (by omega)
     obtain⟨m0,m1,m2,m3,m4,m5,m6,m7⟩:=ai hN
     have fr0:=au hN
     have hq0:w.heap.size<w6.heap.size:=lt_of_block hN
     have hq1:¬w.heap.size=w6.heap.size:=by omega
     have hq2:¬w6.heap.size=w.heap.size:=by omega
     have HRR:=I hr
     have HMM:=I hm
     clear hr hm hm5 hm6 HM5
     go_wp21
     go_wp21
     go_wp21
     exact aK (N:=w.heap.size) rfl rfl (aI hN { kind:=7,num:=11,text:=S }) (.inl ⟨{ kind:=7,num:=11,text:=S },(k+1),hE.o,rfl,HRR.o.tok (by omega) (by omega) _ _ _ _ _ _ _ _,Mv.tok (((Mv.refl b w).alloc _).trans HMM.o) (U _) _ _ _ _ _ _ _ _⟩)
    |false=>
     have hE:Hid (fT l i=.error 1):=by show _=_;rw[hE2.o,if_neg (by rw[hs3];simp)]
     have HM5:=I (HM4.o _ k hr5 hs3)
     clear hs3 hr5 HM3 HM4 hE2
     simp only[]
     go_wp2_with fail
     refine HM5.o.mono ?_
     rintro e w6 ⟨rfl,hm6⟩
     have hm:=hm5.trans hm6
     have HMM:=I hm
     clear hm hm5 hm6 HM5
     simp only[bK]
     go_wp2
     exact⟨rfl,.inr ⟨1,hE.o,rfl,((Mv.refl b w).alloc _).trans HMM.o⟩⟩
theorem DZ{l:List Int}{i:Nat}{p:Int}(hs:bk l i [63]=true)(hp:l[i+1]? =some p):dk 1 l i=(if p=58 then .ok (aR 1,i+2)else if p=62 then .ok (aR 13,i+2)else if p=61 then .ok (aR 14,i+2)else if p=33 then .ok (aR 15,i+2)else if p=60 then fT l (i+2)else if p=105 then gV l (i+2) 1 else if p=45 then(if bk l (i+2) [105]then gV l (i+3) (-1)else .error 1)else .error 1):=by
 unfold dk
 rw[if_neg (by simp),if_neg (by rw[hs];simp),hp]
theorem Cg{b:Nat}{x:Addr}{c:Nat}{l:List Int}{i:Nat}{d:Int}(w:World)(h:RB w b x c l i d):Calls prog 108 #[.pointer (some ⟨b,0,none⟩)] w fun e w'=>mV b x c l d w (dk d l i) e w':=by
 have hlt:=h.lt
 have hxw:=h.xw
 have hat:=h.at'
 have hw0:=h.alloc (aq {})
 obtain⟨c0,c1,c2,f1⟩:=h.cells
 by_cases hd:d=1
 ·subst hd
  cases hs:bk l i [63]with
  |false=>
   have HS:=I (iR _ hw0 63 hs)
   have hE:Hid (dk 1 l i=.ok (aR 11,i)):=by show _=_;unfold dk;rw[if_neg (by simp),if_pos hs]
   clear hs h hw0
   go_enter func108,ntmps108
   go_wp2_with fail
   simp only[aq,World.size_alloc]at HS
   refine HS.o.mono ?_
   rintro e w1 ⟨rfl,hr1,hm1⟩
   go_wp2_with fail
   refine(eO 11 w1).mono ?_
   rintro e w2 ⟨rfl,hb2⟩
   have hr:=hr1.ar hb2
   have hm:=hm1.trans (Mv.ae hb2)
   have hN:w2.heap[w.heap.size]? =some (aq {}):=hm.aC (aj _ _) (by omega)
   obtain⟨m0,m1,m2,m3,m4,m5,m6,m7⟩:=ai hN
   have fr0:=au hN
   have hq0:w.heap.size<w2.heap.size:=lt_of_block hN
   have hq1:¬w.heap.size=w2.heap.size:=by omega
   have hq2:¬w2.heap.size=w.heap.size:=by omega
   have HRR:=I hr
   have HMM:=I hm
   clear hr hm HS hr1 hm1 hb2
   simp only[aZ,aR]
   go_wp21
   go_wp21
   go_wp21
   exact aK (N:=w.heap.size) rfl rfl (aI hN (aR 11)) (.inl ⟨(aR 11),i,hE.o,rfl,HRR.o.tok (by omega) (by omega) _ _ _ _ _ _ _ _,Mv.tok (((Mv.refl b w).alloc _).trans HMM.o) (U _) _ _ _ _ _ _ _ _⟩)
  |true=>
   have HS:=I (gB _ hw0 63 hs)
   by_cases hi:i+1<l.length
   ·have HT:=I (fun w1 (h1:RB w1 b x c l (i+1) 1)=>qP w1 h1 hi)
    have hE0:=I (DZ hs (List.getElem?_eq_getElem hi))
    obtain⟨p,hp⟩:∃p,p=l[i+1]:=⟨_,rfl⟩
    rw[<- hp]at HT hE0
    clear hs h hw0 hp
    by_cases hp58:p=58
    ·subst hp58
     have hE:Hid (dk 1 l i=.ok (aR 1,i+2)):=by show _=_;rw[hE0.o];simp
     clear hE0
     go_enter func108,ntmps108
     go_wp2_with fail
     simp only[aq,World.size_alloc]at HS
     refine HS.o.mono ?_
     rintro e w1 ⟨rfl,hr1,hm1⟩
     go_wp2_with fail
     refine(HT.o w1 hr1).mono ?_
     rintro e w2 ⟨rfl,hr2,hm2⟩
     go_wp2_with fail
     refine(eO 1 w2).mono ?_
     rintro e w3 ⟨rfl,hb3⟩
     have hr:=hr2.ar hb3
     have hm:=(hm1.trans hm2).trans (Mv.ae hb3)
     have hN:w3.heap[w.heap.size]? =some (aq {}):=hm.aC (aj _ _) (by omega)
     obtain⟨m0,m1,m2,m3,m4,m5,m6,m7⟩:=ai hN
     have fr0:=au hN
     have hq0:w.heap.size<w3.heap.size:=lt_of_block hN
     have hq1:¬w.heap.size=w3.heap.size:=by omega
     have hq2:¬w3.heap.size=w.heap.size:=by omega
     have HRR:=I hr
     have HMM:=I hm
     clear hr hm HS HT hr1 hm1 hr2 hm2 hb3
     simp only[aZ,aR]
     go_wp21
     go_wp21
     go_wp21
     exact aK (N:=w.heap.size) rfl rfl (aI hN (aR 1)) (.inl ⟨(aR 1),(i+2),hE.o,rfl,HRR.o.tok (by omega) (by omega) _ _ _ _ _ _ _ _,Mv.tok (((Mv.refl b w).alloc _).trans HMM.o) (U _) _ _ _ _ _ _ _ _⟩)
    by_cases hp62:p=62
    ·subst hp62
     have hE:Hid (dk 1 l i=.ok (aR 13,i+2)):=by show _=_;rw[hE0.o];simp
     clear hE0
     go_enter func108,ntmps108
     go_wp2_with fail
     simp only[aq,World.size_alloc]at HS
     refine HS.o.mono ?_
     rintro e w1 ⟨rfl,hr1,hm1⟩
     go_wp2_with fail
     refine(HT.o w1 hr1).mono ?_
     rintro e w2 ⟨rfl,hr2,hm2⟩
     go_wp2_with fail
     refine(eO 13 w2).mono ?_
     rintro e w3 ⟨rfl,hb3⟩
     have hr:=hr2.ar hb3
     have hm:=(hm1.trans hm2).trans (Mv.ae hb3)
     have hN:w3.heap[w.heap.size]? =some (aq {}):=hm.aC (aj _ _) (by omega)
     obtain⟨m0,m1,m2,m3,m4,m5,m6,m7⟩:=ai hN
     have fr0:=au hN
     have hq0:w.heap.size<w3.heap.size:=lt_of_block hN
     have hq1:¬w.heap.size=w3.heap.size:=by omega
     have hq2:¬w3.heap.size=w.heap.size:=by omega
     have HRR:=I hr
     have HMM:=I hm
     clear hr hm HS HT hr1 hm1 hr2 hm2 hb3
     simp only[aZ,aR]
     go_wp21
     go_wp21
     go_wp21
     exact aK (N:=w.heap.size) rfl rfl (aI hN (aR 13)) (.inl ⟨(aR 13),(i+2),hE.o,rfl,HRR.o.tok (by omega) (by omega) _ _ _ _ _ _ _ _,Mv.tok (((Mv.refl b w).alloc _).trans HMM.o) (U _) _ _ _ _ _ _ _ _⟩)
    by_cases hp61:p=61
    ·subst hp61
     have hE:Hid (dk 1 l i=.ok (aR 14,i+2)):=by show _=_;rw[hE0.o];simp
     clear hE0
     go_enter func108,ntmps108
     go_wp2_with fail
     simp only[aq,World.size_alloc]at HS
     refine HS.o.mono ?_
     rintro e w1 ⟨rfl,hr1,hm1⟩
     go_wp2_with fail
     refine(HT.o w1 hr1).mono ?_
     rintro e w2 ⟨rfl,hr2,hm2⟩
     go_wp2_with fail
     refine(eO 14 w2).mono ?_
     rintro e w3 ⟨rfl,hb3⟩
     have hr:=hr2.ar hb3
     have hm:=(hm1.trans hm2).trans (Mv.ae hb3)
     have hN:w3.heap[w.heap.size]? =some (aq {}):=hm.aC (aj _ _) (by omega)
     obtain⟨m0,m1,m2,m3,m4,m5,m6,m7⟩:=ai hN
     have fr0:=au hN
     have hq0:w.heap.size<w3.heap.size:=lt_of_block hN
     have hq1:¬w.heap.size=w3.heap.size:=by omega
     have hq2:¬w3.heap.size=w.heap.size:=by omega
     have HRR:=I hr
     have HMM:=I hm
     clear hr hm HS HT hr1 hm1 hr2 hm2 hb3
     simp only[aZ,aR]
     go_wp21
     go_wp21
     go_wp21
     exact aK (N:=w.heap.size) rfl rfl (aI hN (aR 14)) (.inl ⟨(aR 14),(i+2),hE.o,rfl,HRR.o.tok (by omega) (by omega) _ _ _ _ _ _ _ _,Mv.tok (((Mv.refl b w).alloc _).trans HMM.o) (U _) _ _ _ _ _ _ _ _⟩)
    by_cases hp33:p=33
    ·subst hp33
     have hE:Hid (dk 1 l i=.ok (aR 15,i+2)):=by show _=_;rw[hE0.o];simp
     clear hE0
     go_enter func108,ntmps108
     go_wp2_with fail
     simp only[aq,World.size_alloc]at HS
     refine HS.o.mono ?_
     rintro e w1 ⟨rfl,hr1,hm1⟩
     go_wp2_with fail
     refine(HT.o w1 hr1).mono ?_
     rintro e w2 ⟨rfl,hr2,hm2⟩
     go_wp2_with fail
     refine(eO 15 w2).mono ?_
     rintro e w3 ⟨rfl,hb3⟩
     have hr:=hr2.ar hb3
     have hm:=(hm1.trans hm2).trans (Mv.ae hb3)
     have hN:w3.heap[w.heap.size]? =some (aq {}):=hm.aC (aj _ _) (by omega)
     obtain⟨m0,m1,m2,m3,m4,m5,m6,m7⟩:=ai hN
     have fr0:=au hN
     have hq0:w.heap.size<w3.heap.size:=lt_of_block hN
     have hq1:¬w.heap.size=w3.heap.size:=by omega
     have hq2:¬w3.heap.size=w.heap.size:=by omega
     have HRR:=I hr
     have HMM:=I hm
     clear hr hm HS HT hr1 hm1 hr2 hm2 hb3
     simp only[aZ,aR]
     go_wp21
     go_wp21
     go_wp21
     exact aK (N:=w.heap.size) rfl rfl (aI hN (aR 15)) (.inl ⟨(aR 15),(i+2),hE.o,rfl,HRR.o.tok (by omega) (by omega) _ _ _ _ _ _ _ _,Mv.tok (((Mv.refl b w).alloc _).trans HMM.o) (U _) _ _ _ _ _ _ _ _⟩)
    by_cases hp60:p=60
    ·subst hp60
     have HR:Hid (dk 1 l i=fT l (i+2)):=by show _=_;rw[hE0.o];simp
     clear hE0
     go_enter func108,ntmps108
     go_wp2_with fail
     simp only[aq,World.size_alloc]at HS
     refine HS.o.mono ?_
     rintro e w1 ⟨rfl,hr1,hm1⟩
     go_wp2_with fail
     refine(HT.o w1 hr1).mono ?_
     rintro e w2 ⟨rfl,hr2,hm2⟩
     go_wp2_with fail
     refine(qo w2 hr2).mono ?_
     rintro e w3 (⟨t,k,hR,rfl,hr,hm9⟩|⟨z,hR,rfl,hm9⟩)
     ·have hE:=I (HR.o.trans hR)
      have hm:=(hm1.trans hm2).trans hm9
      have hN:w3.heap[w.heap.size]? =some (aq {}):=hm.aC (aj _ _) (by omega)
      obtain⟨m0,m1,m2,m3,m4,m5,m6,m7⟩:=ai hN
      have fr0:=au hN
      have hq0:w.heap.size<w3.heap.size:=lt_of_block hN
      have hq1:¬w.heap.size=w3.heap.size:=by omega
      have hq2:¬w3.heap.size=w.heap.size:=by omega
      have HRR:=I hr
      have HMM:=I hm
      clear hr hm hm9 hR HR HS HT hr1 hm1 hr2 hm2
      simp only[aZ]
      go_wp21
      go_wp21
      exact aK (N:=w.heap.size) rfl rfl (aI hN t) (.inl ⟨t,k,hE.o,rfl,HRR.o.tok (by omega) (by omega) _ _ _ _ _ _ _ _,Mv.tok (((Mv.refl b w).alloc _).trans HMM.o) (U _) _ _ _ _ _ _ _ _⟩)
     ·have hE:=I (HR.o.trans hR)
      have hm:=(hm1.trans hm2).trans hm9
      have HMM:=I hm
      clear hm hm9 hR HR HS HT hr1 hm1 hr2 hm2
      simp only[bK]
      go_wp2
      exact⟨rfl,.inr ⟨z,hE.o,rfl,((Mv.refl b w).alloc _).trans HMM.o⟩⟩
    by_cases hp105:p=105
    ·subst hp105
     have HR:Hid (dk 1 l i=gV l (i+2) 1):=by show _=_;rw[hE0.o];simp
     clear hE0
     go_enter func108,ntmps108
     go_wp2_with fail
     simp only[aq,World.size_alloc]at HS
     refine HS.o.mono ?_
     rintro e w1 ⟨rfl,hr1,hm1⟩
     go_wp2_with fail
     refine(HT.o w1 hr1).mono ?_
     rintro e w2 ⟨rfl,hr2,hm2⟩
     go_wp2_with fail
     refine(qV 1 w2 hr2).mono ?_
     rintro e w3 (⟨t,k,hR,rfl,hr,hm9⟩|⟨z,hR,rfl,hm9⟩)
     ·have hE:=I (HR.o.trans hR)
      have hm:=(hm1.trans hm2).trans hm9
      have hN:w3.heap[w.heap.size]? =some (aq {}):=hm.aC (aj _ _) (by omega)
      obtain⟨m0,m1,m2,m3,m4,m5,m6,m7⟩:=ai hN
      have fr0:=au hN
      have hq0:w.heap.size<w3.heap.size:=lt_of_block hN
      have hq1:¬w.heap.size=w3.heap.size:=by omega
      have hq2:¬w3.heap.size=w.heap.size:=by omega
      have HRR:=I hr
      have HMM:=I hm
      clear hr hm hm9 hR HR HS HT hr1 hm1 hr2 hm2
      simp only[aZ]
      go_wp21
      go_wp21
      exact aK (N:=w.heap.size) rfl rfl (aI hN t) (.inl ⟨t,k,hE.o,rfl,HRR.o.tok (by omega) (by omega) _ _ _ _ _ _ _ _,Mv.tok (((Mv.refl b w).alloc _).trans HMM.o) (U _) _ _ _ _ _ _ _ _⟩)
     ·have hE:=I (HR.o.trans hR)
      have hm:=(hm1.trans hm2).trans hm9
      have HMM:=I hm
      clear hm hm9 hR HR HS HT hr1 hm1 hr2 hm2
      simp only[bK]
      go_wp2
      exact⟨rfl,.inr ⟨z,hE.o,rfl,((Mv.refl b w).alloc _).trans HMM.o⟩⟩
    by_cases hp45:p=45
    ·subst hp45
     cases hs2:bk l (i+2) [105]with
     |true=>
      have HR:Hid (dk 1 l i=gV l (i+3) (-1)):=by show _=_;rw[hE0.o];simp[hs2]
      have HM3:=I (fun w2 (h2:RB w2 b x c l (i+2) 1)=>bQ 105 w2 h2 hs2)
      clear hE0 hs2
      go_enter func108,ntmps108
      go_wp2_with fail
      simp only[aq,World.size_alloc]at HS
      refine HS.o.mono ?_
      rintro e w1 ⟨rfl,hr1,hm1⟩
      go_wp2_with fail
      refine(HT.o w1 hr1).mono ?_
      rintro e w2 ⟨rfl,hr2,hm2⟩
      go_wp2_with fail
      refine(HM3.o w2 hr2).mono ?_
      rintro e w3 ⟨rfl,hr3,hm3⟩
      go_wp2_with fail
      refine(qV (-1) w3 hr3).mono ?_
      rintro e w4 (⟨t,k,hR,rfl,hr,hm9⟩|⟨z,hR,rfl,hm9⟩)
      ·have hE:=I (HR.o.trans hR)
       have hm:=((hm1.trans hm2).trans hm3).trans hm9
       have hN:w4.heap[w.heap.size]? =some (aq {}):=hm.aC (aj _ _) (by omega)
       obtain⟨m0,m1,m2,m3,m4,m5,m6,m7⟩:=ai hN
       have fr0:=au hN
       have hq0:w.heap.size<w4.heap.size:=lt_of_block hN
       have hq1:¬w.heap.size=w4.heap.size:=by omega
       have hq2:¬w4.heap.size=w.heap.size:=by omega
       have HRR:=I hr
       have HMM:=I hm
       clear hr hm hm9 hR HR HS HT HM3 hr1 hm1 hr2 hm2 hr3 hm3
       simp only[aZ]
       go_wp21
       go_wp21
       exact aK (N:=w.heap.size) rfl rfl (aI hN t) (.inl ⟨t,k,hE.o,rfl,HRR.o.tok (by omega) (by omega) _ _ _ _ _ _ _ _,Mv.tok (((Mv.refl b w).alloc _).trans HMM.o) (U _) _ _ _ _ _ _ _ _⟩)
      ·have hE:=I (HR.o.trans hR)
       have hm:=((hm1.trans hm2).trans hm3).trans hm9
       have HMM:=I hm
       clear hm hm9 hR HR HS HT HM3 hr1 hm1 hr2 hm2 hr3 hm3
       simp only[bK]
       go_wp2
       exact⟨rfl,.inr ⟨z,hE.o,rfl,((Mv.refl b w).alloc _).trans HMM.o⟩⟩
     |false=>
      have hE:Hid (dk 1 l i=.error 1):=by show _=_;rw[hE0.o];simp[hs2]
      have HM3:=I (fun w2 (h2:RB w2 b x c l (i+2) 1)=>cX 105 w2 h2 hs2)
      clear hE0 hs2
      go_enter func108,ntmps108
      go_wp2_with fail
      simp only[aq,World.size_alloc]at HS
      refine HS.o.mono ?_
      rintro e w1 ⟨rfl,hr1,hm1⟩
      go_wp2_with fail
      refine(HT.o w1 hr1).mono ?_
      rintro e w2 ⟨rfl,hr2,hm2⟩
      go_wp2_with fail
      refine(HM3.o w2 hr2).mono ?_
      rintro e w3 ⟨rfl,hm3⟩
      have hm:=(hm1.trans hm2).trans hm3
      have HMM:=I hm
      clear hm HS HT HM3 hr1 hm1 hr2 hm2 hm3
      simp only[bK]
      go_wp2
      exact⟨rfl,.inr ⟨1,hE.o,rfl,((Mv.refl b w).alloc _).trans HMM.o⟩⟩
    have hE:Hid (dk 1 l i=.error 1):=by show _=_;rw[hE0.o];simp[hp58,hp62,hp61,hp33,hp60,hp105,hp45]
    have hq58:(p==58)=false:=by simpa using hp58
    have hq62:(p==62)=false:=by simpa using hp62
    have hq61:(p==61)=false:=by simpa using hp61
    have hq33:(p==33)=false:=by simpa using hp33
    have hq60:(p==60)=false:=by simpa using hp60
    have hq105:(p==105)=false:=by simpa using hp105
    have hq45:(p==45)=false:=by simpa using hp45
    clear hE0
    go_enter func108,ntmps108
    go_wp2_with fail
    simp only[aq,World.size_alloc]at HS
    refine HS.o.mono ?_
    rintro e w1 ⟨rfl,hr1,hm1⟩
    go_wp2_with fail
    refine(HT.o w1 hr1).mono ?_
    rintro e w2 ⟨rfl,hr2,hm2⟩
    have hm:=hm1.trans hm2
    have HMM:=I hm
    clear hm HS HT hr1 hm1 hr2 hm2
    simp only
    go_wp2
    exact⟨rfl,.inr ⟨1,hE.o,rfl,((Mv.refl b w).alloc _).trans HMM.o⟩⟩
   ·have HT:=I (fun w1 (h1:RB w1 b x c l (i+1) 1)=>zU w1 h1 hi)
    have hE:Hid (dk 1 l i=.error 1):=by show _=_;unfold dk;rw[if_neg (by simp),if_neg (by rw[hs];simp),List.getElem?_eq_none (by omega)]
    clear hs h hw0
    go_enter func108,ntmps108
    go_wp2_with fail
    simp only[aq,World.size_alloc]at HS
    refine HS.o.mono ?_
    rintro e w1 ⟨rfl,hr1,hm1⟩
    go_wp2_with fail
    refine(HT.o w1 hr1).mono ?_
    rintro e w2 ⟨rfl,hm2⟩
    have hm:=hm1.trans hm2
    have HMM:=I hm
    clear hm HS HT hr1 hm1 hm2
    simp only[bK]
    go_wp2
    exact⟨rfl,.inr ⟨1,hE.o,rfl,((Mv.refl b w).alloc _).trans HMM.o⟩⟩
 ·have hE:Hid (dk d l i=.ok (aR 11,i)):=by show _=_;unfold dk;rw[if_pos hd]
  have hdb:(d !=1)=true:=by simpa using hd
  have HR0:=I hw0
  have hm0:=(Mv.refl b (w.alloc (aq {})))
  clear h hw0
  go_enter func108,ntmps108
  go_wp2_with fail
  refine(eO 11 _).mono ?_
  rintro e w2 ⟨rfl,hb2⟩
  have hr:=HR0.o.ar hb2
  have hm:=hm0.trans (Mv.ae hb2)
  have hN:w2.heap[w.heap.size]? =some (aq {}):=hm.aC (aj _ _) (by omega)
  obtain⟨m0,m1,m2,m3,m4,m5,m6,m7⟩:=ai hN
  have fr0:=au hN
  have hq0:w.heap.size<w2.heap.size:=lt_of_block hN
  have hq1:¬w.heap.size=w2.heap.size:=by omega
  have hq2:¬w2.heap.size=w.heap.size:=by omega
  have HRR:=I hr
  have HMM:=I hm
  clear hr hm HR0 hm0 hb2 c0 c1 c2 f1
  simp only[aZ,aR]
  go_wp21
  go_wp21
  go_wp21
  exact aK (N:=w.heap.size) rfl rfl (aI hN (aR 11)) (.inl ⟨(aR 11),i,hE.o,rfl,HRR.o.tok (by omega) (by omega) _ _ _ _ _ _ _ _,Mv.tok (((Mv.refl b w).alloc _).trans HMM.o) (U _) _ _ _ _ _ _ _ _⟩)
theorem gp{b:Nat}{x:Addr}{c:Nat}{l:List Int}{i:Nat}{d:Int}(p:Int)(w:World)(h:RB w b x c l i d):Calls prog 96 #[.pointer (some ⟨b,0,none⟩),.int .i64 p] w fun e w'=>mV b x c l d w (dG d l p i) e w':=by
 have hlt:=h.lt
 have hxw:=h.xw
 have hat:=h.at'
 have hw0:=h.alloc (aq {})
 have hm0:=(Mv.refl b (w.alloc (aq {})))
 by_cases hp40:p=40
 ·subst hp40
  have HR:Hid (dG d l 40 i=dk d l i):=by show _=_;unfold dG;simp
  have HC:=I (Cg _ hw0)
  clear h hw0 hm0
  go_enter func96,ntmps96
  go_wp2_with fail
  simp only[aq]at HC
  refine HC.o.mono ?_
  rintro e w1 (⟨t,k,hR,rfl,hr,hm⟩|⟨z,hR,rfl,hm⟩)
  ·have hE:=I (HR.o.trans hR)
   have hN:w1.heap[w.heap.size]? =some (aq {}):=hm.aC (aj _ _) (by omega)
   obtain⟨m0,m1,m2,m3,m4,m5,m6,m7⟩:=ai hN
   have fr0:=au hN
   have hq0:w.heap.size<w1.heap.size:=lt_of_block hN
   have hq1:¬w.heap.size=w1.heap.size:=by omega
   have hq2:¬w1.heap.size=w.heap.size:=by omega
   have HRR:=I hr
   have HMM:=I hm
   clear hr hm hR HR HC
   simp only[aZ]
   go_wp21
   go_wp21
   exact aK (N:=w.heap.size) rfl rfl (aI hN t) (.inl ⟨t,k,hE.o,rfl,HRR.o.tok (by omega) (by omega) _ _ _ _ _ _ _ _,Mv.tok (((Mv.refl b w).alloc _).trans HMM.o) (U _) _ _ _ _ _ _ _ _⟩)
  ·have hE:=I (HR.o.trans hR)
   have HMM:=I hm
   clear hm hR HR HC
   simp only[bK]
   go_wp2
   exact⟨rfl,.inr ⟨z,hE.o,rfl,((Mv.refl b w).alloc _).trans HMM.o⟩⟩
 by_cases hp41:p=41
 ·subst hp41
  have hE:Hid (dG d l 41 i=.ok ({ kind:=8 },i)):=by show _=_;unfold dG;simp
  have HR0:=I h
  clear h hw0 hm0
  go_enter func96,ntmps96
  go_wp21
  go_wp21
  exact aK (N:=w.heap.size) (t:={ kind:=8 }) rfl rfl (aj _ _) (.inl ⟨{ kind:=8 },i,hE.o,rfl,HR0.o.alloc _,(Mv.refl b w).alloc _⟩)
 by_cases hp124:p=124
 ·subst hp124
  have hE:Hid (dG d l 124 i=.ok ({ kind:=9 },i)):=by show _=_;unfold dG;simp
  have HR0:=I h
  clear h hw0 hm0
  go_enter func96,ntmps96
  go_wp21
  go_wp21
  exact aK (N:=w.heap.size) (t:={ kind:=9 }) rfl rfl (aj _ _) (.inl ⟨{ kind:=9 },i,hE.o,rfl,HR0.o.alloc _,(Mv.refl b w).alloc _⟩)
 by_cases hp123:p=123
 ·subst hp123
  have HR:Hid (dG d l 123 i=cR d l i):=by show _=_;unfold dG;simp
  have HC:=I (AZ _ hw0)
  clear h hw0 hm0
  go_enter func96,ntmps96
  go_wp2_with fail
  simp only[aq]at HC
  refine HC.o.mono ?_
  rintro e w1 (⟨t,k,hR,rfl,hr,hm⟩|⟨z,hR,rfl,hm⟩)
  ·have hE:=I (HR.o.trans hR)
   have hN:w1.heap[w.heap.size]? =some (aq {}):=hm.aC (aj _ _) (by omega)
   obtain⟨m0,m1,m2,m3,m4,m5,m6,m7⟩:=ai hN
   have fr0:=au hN
   have hq0:w.heap.size<w1.heap.size:=lt_of_block hN
   have hq1:¬w.heap.size=w1.heap.size:=by omega
   have hq2:¬w1.heap.size=w.heap.size:=by omega
   have HRR:=I hr
   have HMM:=I hm
   clear hr hm hR HR HC
   simp only[aZ]
   go_wp21
   go_wp21
   exact aK (N:=w.heap.size) rfl rfl (aI hN t) (.inl ⟨t,k,hE.o,rfl,HRR.o.tok (by omega) (by omega) _ _ _ _ _ _ _ _,Mv.tok (((Mv.refl b w).alloc _).trans HMM.o) (U _) _ _ _ _ _ _ _ _⟩)
  ·have hE:=I (HR.o.trans hR)
   have HMM:=I hm
   clear hm hR HR HC
   simp only[bK]
   go_wp2
   exact⟨rfl,.inr ⟨z,hE.o,rfl,((Mv.refl b w).alloc _).trans HMM.o⟩⟩
 have hE:Hid (dG d l p i=.ok (aM p,i)):=by show _=_;unfold dG;simp[hp40,hp41,hp124,hp123]
 have hq40:(p==40)=false:=by simpa using hp40
 have hq41:(p==41)=false:=by simpa using hp41
 have hq124:(p==124)=false:=by simpa using hp124
 have hq123:(p==123)=false:=by simpa using hp123
 have HR0:=I hw0
 clear h hw0
 go_enter func96,ntmps96
 go_wp2_with fail
 refine(dM p _).mono ?_
 rintro e w2 ⟨rfl,hb2⟩
 have hr:=HR0.o.ar hb2
 have hm:=hm0.trans (Mv.ae hb2)
 have hN:w2.heap[w.heap.size]? =some (aq {}):=hm.aC (aj _ _) (by omega)
 obtain⟨m0,m1,m2,m3,m4,m5,m6,m7⟩:=ai hN
 have fr0:=au hN
 have hq0:w.heap.size<w2.heap.size:=lt_of_block hN
 have hq1:¬w.heap.size=w2.heap.size:=by omega
 have hq2:¬w2.heap.size=w.heap.size:=by omega
 have HRR:=I hr
 have HMM:=I hm
 clear hr hm HR0 hm0 hb2
 simp only[aZ,aM]
 go_wp21
 go_wp21
 exact aK (N:=w.heap.size) rfl rfl (aI hN (aM p)) (.inl ⟨(aM p),i,hE.o,rfl,HRR.o.tok (by omega) (by omega) _ _ _ _ _ _ _ _,Mv.tok (((Mv.refl b w).alloc _).trans HMM.o) (U _) _ _ _ _ _ _ _ _⟩)
end Go.Proofs.YtklbbbldalmnbaaGreatDoor.TK
