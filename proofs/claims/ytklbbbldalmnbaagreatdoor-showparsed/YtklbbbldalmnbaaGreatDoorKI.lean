import Derived.Test.YtklbbbldalmnbaaGreatDoorKH
set_option maxHeartbeats 16000000
set_option linter.unusedVariables false
set_option maxRecDepth 100000
open Go.Proofs.Tryz
namespace Go.Proofs.YtklbbbldalmnbaaGreatDoor.TK
open Go.RowKit
theorem FX{b:Nat}{x:Addr}{c:Nat}{l:List Int}{i:Nat}{d:Int}(p:Int)(c9:ByteArray×Bool)(w:World)(h:RB w b x c l i d)(hcl:jq p=some c9):Calls prog 105 #[.pointer (some ⟨b,0,none⟩),.int .i64 p] w fun e w'=>nh b x c l d w (dj l i p) e w':=by
 have hlt:=h.lt
 have hxw:=h.xw
 have hat:=h.at'
 have hw0:=h.alloc (aw {})
 have HR0:=I hw0
 have hE:Hid (dj l i p=.ok (ej c9,i)):=by show _=_;unfold dj;rw[hcl]
 obtain⟨cn,cg⟩:=c9
 clear h hw0
 go_enter func105,ntmps105
 go_wp2_with fail
 refine(cM _).mono ?_
 rintro e w1 ⟨rfl,hmap,hb1⟩
 have hl1:=dR hmap p
 have hr1:=HR0.o.ax hb1
 have hm1:Mv b (w.alloc (aw {})) w1:=Mv.U hb1
 have hlt1:=hr1.lt
 have hxw1:=hr1.xw
 have hz1:w.heap.size+1<=w1.heap.size:=by have:=hm1.size;simpa using this
 clear hmap hb1
 simp only[hcl,gE,Option.isSome_some,World.size_alloc]at hl1
 clear hcl HR0
 have hr2:=hr1.alloc (.cells #[.string cn,.bool cg] 146)
 have hm2:=hm1.alloc (.cells #[.string cn,.bool cg] 146)
 go_wp2_with fail
 refine(jW cn cg _).mono ?_
 rintro e w3 ⟨rfl,hb3⟩
 have hr:=hr2.ax hb3
 have hm:=hm2.trans (Mv.U hb3)
 have hN:w3.heap[w.heap.size]? =some (aw {}):=hm.aH (aj _ _) (by omega)
 obtain⟨m0,m1,m2,m3,m4,m5,m6,m7⟩:=ae hN
 have fr0:=aC hN
 have hq0:w.heap.size<w3.heap.size:=lt_of_block hN
 have hq1:¬w.heap.size=w3.heap.size:=by omega
 have hq2:¬w3.heap.size=w.heap.size:=by omega
 have HRR:=I hr
 have HMM:=I hm
 clear hr hm hr1 hm1 hr2 hm2 hb3 hl1
 simp only[bh,ej]
 go_wp21
 go_wp21
 go_wp21
 exact aO (N:=w.heap.size) rfl rfl (aM hN (ej (cn,cg))) (.inl ⟨(ej (cn,cg)),i,hE.o,rfl,HRR.o.tok (by omega) (by omega) _ _ _ _ _ _ _ _,Mv.tok (((Mv.refl b w).alloc _).trans HMM.o) (ai _) _ _ _ _ _ _ _ _⟩)
theorem IB{b:Nat}{x:Addr}{c:Nat}{l:List Int}{i:Nat}{d:Int}(p:Int)(w:World)(h:RB w b x c l i d)(hcl:jq p=none):Calls prog 105 #[.pointer (some ⟨b,0,none⟩),.int .i64 p] w fun e w'=>nh b x c l d w (dj l i p) e w':=by
 have hlt:=h.lt
 have hxw:=h.xw
 have hat:=h.at'
 have hw0:=h.alloc (aw {})
 have HR0:=I hw0
 have hE0:Hid (dj l i p=(if p=65 then .ok (bz 5,i)else if p=122 then .ok (bz 6,i)else if p=98 then .ok (bz 7,i)else if p=66 then .ok (bz 8,i)else if p=120 then fL l i else if p=117 then lE l i else if p=107 then ff l i else if 49<=p/\p<=57 then .ok (jP l i (p - 48))else match iP p with| .ok q=>.ok (aR q,i)| .error e=>.error e)):=by show _=_;unfold dj;simp only[hcl];rfl
 clear h hw0
 by_cases hp65:p=65
 ·subst hp65
  have hE:Hid (dj l i 65=.ok (bz 5,i)):=by show _=_;rw[hE0.o];simp
  clear hcl hE0
  go_enter func105,ntmps105
  go_wp2_with fail
  refine(cM _).mono ?_
  rintro e w1 ⟨rfl,hmap,hb1⟩
  have hl1:=dR hmap 65
  have hr1:=HR0.o.ax hb1
  have hm1:Mv b (w.alloc (aw {})) w1:=Mv.U hb1
  have hlt1:=hr1.lt
  have hxw1:=hr1.xw
  have hz1:w.heap.size+1<=w1.heap.size:=by have:=hm1.size;simpa using this
  clear hmap hb1
  have hcl:jq 65=none:=by decide +kernel
  simp only[hcl,gE,Option.isSome_none,World.size_alloc]at hl1
  clear hcl
  clear HR0
  have hr2:=hr1.alloc (.cells #[.string ⟨#[]⟩,.bool false] 146)
  have hm2:=hm1.alloc (.cells #[.string ⟨#[]⟩,.bool false] 146)
  go_wp2_with fail
  refine(fl 5 _).mono ?_
  rintro e w3 ⟨rfl,hb3⟩
  have hr:=hr2.ax hb3
  have hm:=hm2.trans (Mv.U hb3)
  have hN:w3.heap[w.heap.size]? =some (aw {}):=hm.aH (aj _ _) (by omega)
  obtain⟨m0,m1,m2,m3,m4,m5,m6,m7⟩:=ae hN
  have fr0:=aC hN
  have hq0:w.heap.size<w3.heap.size:=lt_of_block hN
  have hq1:¬w.heap.size=w3.heap.size:=by omega
  have hq2:¬w3.heap.size=w.heap.size:=by omega
  have HRR:=I hr
  have HMM:=I hm
  clear hr hm hr1 hm1 hr2 hm2 hb3 hl1
  simp only[bh,bz]
  go_wp21
  go_wp21
  go_wp21
  exact aO (N:=w.heap.size) rfl rfl (aM hN (bz 5)) (.inl ⟨(bz 5),i,hE.o,rfl,HRR.o.tok (by omega) (by omega) _ _ _ _ _ _ _ _,Mv.tok (((Mv.refl b w).alloc _).trans HMM.o) (ai _) _ _ _ _ _ _ _ _⟩)
 by_cases hp122:p=122
 ·subst hp122
  have hE:Hid (dj l i 122=.ok (bz 6,i)):=by show _=_;rw[hE0.o];simp
  clear hcl hE0
  go_enter func105,ntmps105
  go_wp2_with fail
  refine(cM _).mono ?_
  rintro e w1 ⟨rfl,hmap,hb1⟩
  have hl1:=dR hmap 122
  have hr1:=HR0.o.ax hb1
  have hm1:Mv b (w.alloc (aw {})) w1:=Mv.U hb1
  have hlt1:=hr1.lt
  have hxw1:=hr1.xw
  have hz1:w.heap.size+1<=w1.heap.size:=by have:=hm1.size;simpa using this
  clear hmap hb1
  have hcl:jq 122=none:=by decide +kernel
  simp only[hcl,gE,Option.isSome_none,World.size_alloc]at hl1
  clear hcl
  clear HR0
  have hr2:=hr1.alloc (.cells #[.string ⟨#[]⟩,.bool false] 146)
  have hm2:=hm1.alloc (.cells #[.string ⟨#[]⟩,.bool false] 146)
  go_wp2_with fail
  refine(fl 6 _).mono ?_
  rintro e w3 ⟨rfl,hb3⟩
  have hr:=hr2.ax hb3
  have hm:=hm2.trans (Mv.U hb3)
  have hN:w3.heap[w.heap.size]? =some (aw {}):=hm.aH (aj _ _) (by omega)
  obtain⟨m0,m1,m2,m3,m4,m5,m6,m7⟩:=ae hN
  have fr0:=aC hN
  have hq0:w.heap.size<w3.heap.size:=lt_of_block hN
  have hq1:¬w.heap.size=w3.heap.size:=by omega
  have hq2:¬w3.heap.size=w.heap.size:=by omega
  have HRR:=I hr
  have HMM:=I hm
  clear hr hm hr1 hm1 hr2 hm2 hb3 hl1
  simp only[bh,bz]
  go_wp21
  go_wp21
  go_wp21
  exact aO (N:=w.heap.size) rfl rfl (aM hN (bz 6)) (.inl ⟨(bz 6),i,hE.o,rfl,HRR.o.tok (by omega) (by omega) _ _ _ _ _ _ _ _,Mv.tok (((Mv.refl b w).alloc _).trans HMM.o) (ai _) _ _ _ _ _ _ _ _⟩)
 by_cases hp98:p=98
 ·subst hp98
  have hE:Hid (dj l i 98=.ok (bz 7,i)):=by show _=_;rw[hE0.o];simp
  clear hcl hE0
  go_enter func105,ntmps105
  go_wp2_with fail
  refine(cM _).mono ?_
  rintro e w1 ⟨rfl,hmap,hb1⟩
  have hl1:=dR hmap 98
  have hr1:=HR0.o.ax hb1
  have hm1:Mv b (w.alloc (aw {})) w1:=Mv.U hb1
  have hlt1:=hr1.lt
  have hxw1:=hr1.xw
  have hz1:w.heap.size+1<=w1.heap.size:=by have:=hm1.size;simpa using this
  clear hmap hb1
  have hcl:jq 98=none:=by decide +kernel
  simp only[hcl,gE,Option.isSome_none,World.size_alloc]at hl1
  clear hcl
  clear HR0
  have hr2:=hr1.alloc (.cells #[.string ⟨#[]⟩,.bool false] 146)
  have hm2:=hm1.alloc (.cells #[.string ⟨#[]⟩,.bool false] 146)
  go_wp2_with fail
  refine(fl 7 _).mono ?_
  rintro e w3 ⟨rfl,hb3⟩
  have hr:=hr2.ax hb3
  have hm:=hm2.trans (Mv.U hb3)
  have hN:w3.heap[w.heap.size]? =some (aw {}):=hm.aH (aj _ _) (by omega)
  obtain⟨m0,m1,m2,m3,m4,m5,m6,m7⟩:=ae hN
  have fr0:=aC hN
  have hq0:w.heap.size<w3.heap.size:=lt_of_block hN
  have hq1:¬w.heap.size=w3.heap.size:=by omega
  have hq2:¬w3.heap.size=w.heap.size:=by omega
  have HRR:=I hr
  have HMM:=I hm
  clear hr hm hr1 hm1 hr2 hm2 hb3 hl1
  simp only[bh,bz]
  go_wp21
  go_wp21
  go_wp21
  exact aO (N:=w.heap.size) rfl rfl (aM hN (bz 7)) (.inl ⟨(bz 7),i,hE.o,rfl,HRR.o.tok (by omega) (by omega) _ _ _ _ _ _ _ _,Mv.tok (((Mv.refl b w).alloc _).trans HMM.o) (ai _) _ _ _ _ _ _ _ _⟩)
 by_cases hp66:p=66
 ·subst hp66
  have hE:Hid (dj l i 66=.ok (bz 8,i)):=by show _=_;rw[hE0.o];simp
  clear hcl hE0
  go_enter func105,ntmps105
  go_wp2_with fail
  refine(cM _).mono ?_
  rintro e w1 ⟨rfl,hmap,hb1⟩
  have hl1:=dR hmap 66
  have hr1:=HR0.o.ax hb1
  have hm1:Mv b (w.alloc (aw {})) w1:=Mv.U hb1
  have hlt1:=hr1.lt
  have hxw1:=hr1.xw
  have hz1:w.heap.size+1<=w1.heap.size:=by have:=hm1.size;simpa using this
  clear hmap hb1
  have hcl:jq 66=none:=by decide +kernel
  simp only[hcl,gE,Option.isSome_none,World.size_alloc]at hl1
  clear hcl
  clear HR0
  have hr2:=hr1.alloc (.cells #[.string ⟨#[]⟩,.bool false] 146)
  have hm2:=hm1.alloc (.cells #[.string ⟨#[]⟩,.bool false] 146)
  go_wp2_with fail
  refine(fl 8 _).mono ?_
  rintro e w3 ⟨rfl,hb3⟩
  have hr:=hr2.ax hb3
  have hm:=hm2.trans (Mv.U hb3)
  have hN:w3.heap[w.heap.size]? =some (aw {}):=hm.aH (aj _ _) (by omega)
  obtain⟨m0,m1,m2,m3,m4,m5,m6,m7⟩:=ae hN
  have fr0:=aC hN
  have hq0:w.heap.size<w3.heap.size:=lt_of_block hN
  have hq1:¬w.heap.size=w3.heap.size:=by omega
  have hq2:¬w3.heap.size=w.heap.size:=by omega
  have HRR:=I hr
  have HMM:=I hm
  clear hr hm hr1 hm1 hr2 hm2 hb3 hl1
  simp only[bh,bz]
  go_wp21
  go_wp21
  go_wp21
  exact aO (N:=w.heap.size) rfl rfl (aM hN (bz 8)) (.inl ⟨(bz 8),i,hE.o,rfl,HRR.o.tok (by omega) (by omega) _ _ _ _ _ _ _ _,Mv.tok (((Mv.refl b w).alloc _).trans HMM.o) (ai _) _ _ _ _ _ _ _ _⟩)
 by_cases hp120:p=120
 ·subst hp120
  have HR:Hid (dj l i 120=fL l i):=by show _=_;rw[hE0.o];simp
  clear hcl hE0
  go_enter func105,ntmps105
  go_wp2_with fail
  refine(cM _).mono ?_
  rintro e w1 ⟨rfl,hmap,hb1⟩
  have hl1:=dR hmap 120
  have hr1:=HR0.o.ax hb1
  have hm1:Mv b (w.alloc (aw {})) w1:=Mv.U hb1
  have hlt1:=hr1.lt
  have hxw1:=hr1.xw
  have hz1:w.heap.size+1<=w1.heap.size:=by have:=hm1.size;simpa using this
  clear hmap hb1
  have hcl:jq 120=none:=by decide +kernel
  simp only[hcl,gE,Option.isSome_none,World.size_alloc]at hl1
  clear hcl
  clear HR0
  have hr2:=hr1.alloc (.cells #[.string ⟨#[]⟩,.bool false] 146)
  have hm2:=hm1.alloc (.cells #[.string ⟨#[]⟩,.bool false] 146)
  go_wp2_with fail
  refine(uB _ hr2).mono ?_
  rintro e w3 (⟨t,k,hR,rfl,hr,hm9⟩|⟨z,hR,rfl,hm9⟩)
  ·have hE:=I (HR.o.trans hR)
   have hm:=hm2.trans hm9
   have hN:w3.heap[w.heap.size]? =some (aw {}):=hm.aH (aj _ _) (by omega)
   obtain⟨m0,m1,m2,m3,m4,m5,m6,m7⟩:=ae hN
   have fr0:=aC hN
   have hq0:w.heap.size<w3.heap.size:=lt_of_block hN
   have hq1:¬w.heap.size=w3.heap.size:=by omega
   have hq2:¬w3.heap.size=w.heap.size:=by omega
   have HRR:=I hr
   have HMM:=I hm
   clear hr hm hm9 hR HR hr1 hm1 hr2 hm2 hl1
   simp only[bh]
   go_wp21
   go_wp21
   exact aO (N:=w.heap.size) rfl rfl (aM hN t) (.inl ⟨t,k,hE.o,rfl,HRR.o.tok (by omega) (by omega) _ _ _ _ _ _ _ _,Mv.tok (((Mv.refl b w).alloc _).trans HMM.o) (ai _) _ _ _ _ _ _ _ _⟩)
  ·have hE:=I (HR.o.trans hR)
   have hm:=hm2.trans hm9
   have HMM:=I hm
   clear hm hm9 hR HR hr1 hm1 hr2 hm2 hl1
   simp only[bU]
   go_wp2
   exact⟨rfl,.inr ⟨z,hE.o,rfl,((Mv.refl b w).alloc _).trans HMM.o⟩⟩
 by_cases hp107:p=107
 ·subst hp107
  have HR:Hid (dj l i 107=ff l i):=by show _=_;rw[hE0.o];simp
  clear hcl hE0
  go_enter func105,ntmps105
  go_wp2_with fail
  refine(cM _).mono ?_
  rintro e w1 ⟨rfl,hmap,hb1⟩
  have hl1:=dR hmap 107
  have hr1:=HR0.o.ax hb1
  have hm1:Mv b (w.alloc (aw {})) w1:=Mv.U hb1
  have hlt1:=hr1.lt
  have hxw1:=hr1.xw
  have hz1:w.heap.size+1<=w1.heap.size:=by have:=hm1.size;simpa using this
  clear hmap hb1
  have hcl:jq 107=none:=by decide +kernel
  simp only[hcl,gE,Option.isSome_none,World.size_alloc]at hl1
  clear hcl
  clear HR0
  have hr2:=hr1.alloc (.cells #[.string ⟨#[]⟩,.bool false] 146)
  have hm2:=hm1.alloc (.cells #[.string ⟨#[]⟩,.bool false] 146)
  go_wp2_with fail
  refine(vy _ hr2).mono ?_
  rintro e w3 (⟨t,k,hR,rfl,hr,hm9⟩|⟨z,hR,rfl,hm9⟩)
  ·have hE:=I (HR.o.trans hR)
   have hm:=hm2.trans hm9
   have hN:w3.heap[w.heap.size]? =some (aw {}):=hm.aH (aj _ _) (by omega)
   obtain⟨m0,m1,m2,m3,m4,m5,m6,m7⟩:=ae hN
   have fr0:=aC hN
   have hq0:w.heap.size<w3.heap.size:=lt_of_block hN
   have hq1:¬w.heap.size=w3.heap.size:=by omega
   have hq2:¬w3.heap.size=w.heap.size:=by omega
   have HRR:=I hr
   have HMM:=I hm
   clear hr hm hm9 hR HR hr1 hm1 hr2 hm2 hl1
   simp only[bh]
   go_wp21
   go_wp21
   exact aO (N:=w.heap.size) rfl rfl (aM hN t) (.inl ⟨t,k,hE.o,rfl,HRR.o.tok (by omega) (by omega) _ _ _ _ _ _ _ _,Mv.tok (((Mv.refl b w).alloc _).trans HMM.o) (ai _) _ _ _ _ _ _ _ _⟩)
  ·have hE:=I (HR.o.trans hR)
   have hm:=hm2.trans hm9
   have HMM:=I hm
   clear hm hm9 hR HR hr1 hm1 hr2 hm2 hl1
   simp only[bU]
   go_wp2
   exact⟨rfl,.inr ⟨z,hE.o,rfl,((Mv.refl b w).alloc _).trans HMM.o⟩⟩
 by_cases hp117:p=117
 ·subst hp117
  have HR:Hid (dj l i 117=lE l i):=by show _=_;rw[hE0.o];simp
  obtain⟨n,k,he,hr0⟩:=eU 16 4 l i hat (Or.inr rfl)
  by_cases hk:k<4
  ·have hE:Hid (dj l i 117=.error 1):=by show _=_;rw[HR.o];unfold lE;simp only[he];rw[if_pos hk]
   have HX:=I (fun w1 (h1:RB w1 b x c l i d)=>uC (least:=4) w1 h1 (by omega) (by omega) he hk)
   clear hcl hE0 he hr0 HR
   go_enter func105,ntmps105
   go_wp2_with fail
   refine(cM _).mono ?_
   rintro e w1 ⟨rfl,hmap,hb1⟩
   have hl1:=dR hmap 117
   have hr1:=HR0.o.ax hb1
   have hm1:Mv b (w.alloc (aw {})) w1:=Mv.U hb1
   have hlt1:=hr1.lt
   have hxw1:=hr1.xw
   have hz1:w.heap.size+1<=w1.heap.size:=by have:=hm1.size;simpa using this
   clear hmap hb1
   have hcl:jq 117=none:=by decide +kernel
   simp only[hcl,gE,Option.isSome_none,World.size_alloc]at hl1
   clear hcl
   clear HR0
   have hr2:=hr1.alloc (.cells #[.string ⟨#[]⟩,.bool false] 146)
   have hm2:=hm1.alloc (.cells #[.string ⟨#[]⟩,.bool false] 146)
   go_wp2_with fail
   refine(HX.o _ hr2).mono ?_
   rintro e w3 ⟨rfl,hm3⟩
   have hm:=hm2.trans hm3
   have HMM:=I hm
   clear hm hr1 hm1 hr2 hm2 hm3 HX hl1
   simp only[bU]
   go_wp2
   exact⟨rfl,.inr ⟨1,hE.o,rfl,((Mv.refl b w).alloc _).trans HMM.o⟩⟩
  ·have hE:Hid (dj l i 117=.ok (aR n,i+k)):=by show _=_;rw[HR.o];unfold lE;simp only[he];rw[if_neg hk]
   have HX:=I (fun w1 (h1:RB w1 b x c l i d)=>zA (least:=4) w1 h1 (by omega) (by omega) he (by omega))
   clear hcl hE0 he hr0 HR
   go_enter func105,ntmps105
   go_wp2_with fail
   refine(cM _).mono ?_
   rintro e w1 ⟨rfl,hmap,hb1⟩
   have hl1:=dR hmap 117
   have hr1:=HR0.o.ax hb1
   have hm1:Mv b (w.alloc (aw {})) w1:=Mv.U hb1
   have hlt1:=hr1.lt
   have hxw1:=hr1.xw
   have hz1:w.heap.size+1<=w1.heap.size:=by have:=hm1.size;simpa using this
   clear hmap hb1
   have hcl:jq 117=none:=by decide +kernel
   simp only[hcl,gE,Option.isSome_none,World.size_alloc]at hl1
   clear hcl
   clear HR0
   have hr2:=hr1.alloc (.cells #[.string ⟨#[]⟩,.bool false] 146)
   have hm2:=hm1.alloc (.cells #[.string ⟨#[]⟩,.bool false] 146)
   go_wp2_with fail
   refine(HX.o _ hr2).mono ?_
   rintro e w3 ⟨rfl,hr3,hm3⟩
   go_wp2_with fail
   refine(eo n w3).mono ?_
   rintro e w4 ⟨rfl,hb4⟩
   have hr:=hr3.ax hb4
   have hm:=(hm2.trans hm3).trans (Mv.U hb4)
   have hN:w4.heap[w.heap.size]? =some (aw {}):=hm.aH (aj _ _) (by omega)
   obtain⟨m0,m1,m2,m3,m4,m5,m6,m7⟩:=ae hN
   have fr0:=aC hN
   have hq0:w.heap.size<w4.heap.size:=lt_of_block hN
   have hq1:¬w.heap.size=w4.heap.size:=by omega
   have hq2:¬w4.heap.size=w.heap.size:=by omega
   have HRR:=I hr
   have HMM:=I hm
   clear hr hm hr1 hm1 hr2 hm2 hr3 hm3 hb4 HX hl1
   simp only[bh,aR]
   go_wp21
   go_wp21
   go_wp21
   exact aO (N:=w.heap.size) rfl rfl (aM hN (aR n)) (.inl ⟨(aR n),(i+k),hE.o,rfl,HRR.o.tok (by omega) (by omega) _ _ _ _ _ _ _ _,Mv.tok (((Mv.refl b w).alloc _).trans HMM.o) (ai _) _ _ _ _ _ _ _ _⟩)
 have hq65:(p==65)=false:=by simpa using hp65
 have hq122:(p==122)=false:=by simpa using hp122
 have hq98:(p==98)=false:=by simpa using hp98
 have hq66:(p==66)=false:=by simpa using hp66
 have hq120:(p==120)=false:=by simpa using hp120
 have hq117:(p==117)=false:=by simpa using hp117
 have hq107:(p==107)=false:=by simpa using hp107
 by_cases hdg:49<=p/\p<=57
 ·have HR:Hid (dj l i p=.ok (jP l i (p - 48))):=by show _=_;rw[hE0.o];simp[hp65,hp122,hp98,hp66,hp120,hp117,hp107,hdg]
  obtain⟨hd1,hd2⟩:=hdg
  clear hE0 hp65 hp122 hp98 hp66 hp120 hp117 hp107
  go_enter func105,ntmps105
  go_wp2_with fail
  refine(cM _).mono ?_
  rintro e w1 ⟨rfl,hmap,hb1⟩
  have hl1:=dR hmap p
  have hr1:=HR0.o.ax hb1
  have hm1:Mv b (w.alloc (aw {})) w1:=Mv.U hb1
  have hlt1:=hr1.lt
  have hxw1:=hr1.xw
  have hz1:w.heap.size+1<=w1.heap.size:=by have:=hm1.size;simpa using this
  clear hmap hb1
  simp only[hcl,gE,Option.isSome_none,World.size_alloc]at hl1
  clear HR0 hcl
  have hr2:=hr1.alloc (.cells #[.string ⟨#[]⟩,.bool false] 146)
  have hm2:=hm1.alloc (.cells #[.string ⟨#[]⟩,.bool false] 146)
  go_wp2_with fail
  refine(pq (p - 48) _ hr2 (by omega) (by omega)).mono ?_
  rintro e w3 (⟨t,k,hR,rfl,hr,hm9⟩|⟨z,hR,rfl,hm9⟩)
  ·have hE:=I (HR.o.trans hR)
   have hm:=hm2.trans hm9
   have hN:w3.heap[w.heap.size]? =some (aw {}):=hm.aH (aj _ _) (by omega)
   obtain⟨m0,m1,m2,m3,m4,m5,m6,m7⟩:=ae hN
   have fr0:=aC hN
   have hq0:w.heap.size<w3.heap.size:=lt_of_block hN
   have hq1:¬w.heap.size=w3.heap.size:=by omega
   have hq2:¬w3.heap.size=w.heap.size:=by omega
   have HRR:=I hr
   have HMM:=I hm
   clear hr hm hm9 hR HR hr1 hm1 hr2 hm2 hl1
   simp only[bh]
   go_wp21
   go_wp21
   exact aO (N:=w.heap.size) rfl rfl (aM hN t) (.inl ⟨t,k,hE.o,rfl,HRR.o.tok (by omega) (by omega) _ _ _ _ _ _ _ _,Mv.tok (((Mv.refl b w).alloc _).trans HMM.o) (ai _) _ _ _ _ _ _ _ _⟩)
  ·have hE:=I (HR.o.trans hR)
   have hm:=hm2.trans hm9
   have HMM:=I hm
   clear hm hm9 hR HR hr1 hm1 hr2 hm2 hl1
   simp only[bU]
   go_wp2
   exact⟨rfl,.inr ⟨z,hE.o,rfl,((Mv.refl b w).alloc _).trans HMM.o⟩⟩
 ·have HR:Hid (dj l i p=(match iP p with| .ok q=>.ok (aR q,i)| .error e=>.error e)):=by show _=_;rw[hE0.o,if_neg hp65,if_neg hp122,if_neg hp98,if_neg hp66,if_neg hp120,if_neg hp117,if_neg hp107,if_neg hdg]
  have hCT:=I (vW p)
  have hnd:¬(49<=p/\p<=57):=hdg
  clear hE0 hp65 hp122 hp98 hp66 hp120 hp117 hp107
  by_cases h49:49<=p
  ·have h57:¬p<=57:=by omega
   clear hdg hnd
   go_enter func105,ntmps105
   go_wp2_with fail
   refine(cM _).mono ?_
   rintro e w1 ⟨rfl,hmap,hb1⟩
   have hl1:=dR hmap p
   have hr1:=HR0.o.ax hb1
   have hm1:Mv b (w.alloc (aw {})) w1:=Mv.U hb1
   have hlt1:=hr1.lt
   have hxw1:=hr1.xw
   have hz1:w.heap.size+1<=w1.heap.size:=by have:=hm1.size;simpa using this
   clear hmap hb1
   simp only[hcl,gE,Option.isSome_none,World.size_alloc]at hl1
   clear HR0 hcl
   have hr2:=hr1.alloc (.cells #[.string ⟨#[]⟩,.bool false] 146)
   have hm2:=hm1.alloc (.cells #[.string ⟨#[]⟩,.bool false] 146)
   go_wp2_with fail
   refine(hCT.o _).mono ?_
   rintro e w3 (⟨q,hq,rfl,rfl⟩|⟨hq,rfl,rfl⟩)
   ·have hE:Hid (dj l i p=.ok (aR q,i)):=by show _=_;rw[HR.o,hq]
    go_wp2_with fail
    refine(eo q _).mono ?_
    rintro e w4 ⟨rfl,hb4⟩
    have hr:=hr2.ax hb4
    have hm:=hm2.trans (Mv.U hb4)
    have hN:w4.heap[w.heap.size]? =some (aw {}):=hm.aH (aj _ _) (by omega)
    obtain⟨m0,m1,m2,m3,m4,m5,m6,m7⟩:=ae hN
    have fr0:=aC hN
    have hq0:w.heap.size<w4.heap.size:=lt_of_block hN
    have hq1:¬w.heap.size=w4.heap.size:=by omega
    have hq2:¬w4.heap.size=w.heap.size:=by omega
    have HRR:=I hr
    have HMM:=I hm
    clear hr hm hr1 hm1 hr2 hm2 hb4 hl1 hq HR
    simp only[bh,aR]
    go_wp21
    go_wp21
    go_wp21
    exact aO (N:=w.heap.size) rfl rfl (aM hN (aR q)) (.inl ⟨(aR q),i,hE.o,rfl,HRR.o.tok (by omega) (by omega) _ _ _ _ _ _ _ _,Mv.tok (((Mv.refl b w).alloc _).trans HMM.o) (ai _) _ _ _ _ _ _ _ _⟩)
   ·have hE:Hid (dj l i p=.error 1):=by show _=_;rw[HR.o,hq]
    have hm:=hm2
    have HMM:=I hm
    clear hm hr1 hm1 hr2 hm2 hl1 hq HR
    simp only[bU]
    go_wp2
    exact⟨rfl,.inr ⟨1,hE.o,rfl,((Mv.refl b w).alloc _).trans HMM.o⟩⟩
  ·clear hdg hnd
   go_enter func105,ntmps105
   go_wp2_with fail
   refine(cM _).mono ?_
   rintro e w1 ⟨rfl,hmap,hb1⟩
   have hl1:=dR hmap p
   have hr1:=HR0.o.ax hb1
   have hm1:Mv b (w.alloc (aw {})) w1:=Mv.U hb1
   have hlt1:=hr1.lt
   have hxw1:=hr1.xw
   have hz1:w.heap.size+1<=w1.heap.size:=by have:=hm1.size;simpa using this
   clear hmap hb1
   simp only[hcl,gE,Option.isSome_none,World.size_alloc]at hl1
   clear HR0 hcl
   have hr2:=hr1.alloc (.cells #[.string ⟨#[]⟩,.bool false] 146)
   have hm2:=hm1.alloc (.cells #[.string ⟨#[]⟩,.bool false] 146)
   go_wp2_with fail
   refine(hCT.o _).mono ?_
   rintro e w3 (⟨q,hq,rfl,rfl⟩|⟨hq,rfl,rfl⟩)
   ·have hE:Hid (dj l i p=.ok (aR q,i)):=by show _=_;rw[HR.o,hq]
    go_wp2_with fail
    refine(eo q _).mono ?_
    rintro e w4 ⟨rfl,hb4⟩
    have hr:=hr2.ax hb4
    have hm:=hm2.trans (Mv.U hb4)
    have hN:w4.heap[w.heap.size]? =some (aw {}):=hm.aH (aj _ _) (by omega)
    obtain⟨m0,m1,m2,m3,m4,m5,m6,m7⟩:=ae hN
    have fr0:=aC hN
    have hq0:w.heap.size<w4.heap.size:=lt_of_block hN
    have hq1:¬w.heap.size=w4.heap.size:=by omega
    have hq2:¬w4.heap.size=w.heap.size:=by omega
    have HRR:=I hr
    have HMM:=I hm
    clear hr hm hr1 hm1 hr2 hm2 hb4 hl1 hq HR
    simp only[bh,aR]
    go_wp21
    go_wp21
    go_wp21
    exact aO (N:=w.heap.size) rfl rfl (aM hN (aR q)) (.inl ⟨(aR q),i,hE.o,rfl,HRR.o.tok (by omega) (by omega) _ _ _ _ _ _ _ _,Mv.tok (((Mv.refl b w).alloc _).trans HMM.o) (ai _) _ _ _ _ _ _ _ _⟩)
   ·have hE:Hid (dj l i p=.error 1):=by show _=_;rw[HR.o,hq]
    have hm:=hm2
    have HMM:=I hm
    clear hm hr1 hm1 hr2 hm2 hl1 hq HR
    simp only[bU]
    go_wp2
    exact⟨rfl,.inr ⟨1,hE.o,rfl,((Mv.refl b w).alloc _).trans HMM.o⟩⟩
theorem FW{b:Nat}{x:Addr}{c:Nat}{l:List Int}{i:Nat}{d:Int}(p:Int)(w:World)(h:RB w b x c l i d):Calls prog 105 #[.pointer (some ⟨b,0,none⟩),.int .i64 p] w fun e w'=>nh b x c l d w (dj l i p) e w':=by
 cases hcl:jq p with
 |none=>exact IB p w h hcl
 |some c9=>exact FX p c9 w h hcl
theorem Cl{b:Nat}{x:Addr}{c:Nat}{l:List Int}{i:Nat}{d:Int}(p:Int)(w:World)(h:RB w b x c l i d)(hd3:d=3):Calls prog 106 #[.pointer (some ⟨b,0,none⟩),.int .i64 p] w fun e w'=>nh b x c l d w (bX l i p) e w':=by
 have hlt:=h.lt
 have hxw:=h.xw
 have hat:=h.at'
 have hw0:=h.alloc (aw {})
 have HR0:=I hw0
 have hm0:=(Mv.refl b (w.alloc (aw {})))
 subst hd3
 by_cases hp40:p=40
 ·subst hp40
  have HR:Hid (bX l i 40=dW 3 l 40 i):=by show _=_;unfold bX;simp
  have HC:=I (gJ 40 _ hw0)
  clear h hw0 hm0 HR0
  go_enter func106,ntmps106
  go_wp2_with fail
  simp only[aw]at HC
  refine HC.o.mono ?_
  rintro e w1 (⟨t,k,hR,rfl,hr,hm⟩|⟨z,hR,rfl,hm⟩)
  ·have hE:=I (HR.o.trans hR)
   have hN:w1.heap[w.heap.size]? =some (aw {}):=hm.aH (aj _ _) (by omega)
   obtain⟨m0,m1,m2,m3,m4,m5,m6,m7⟩:=ae hN
   have fr0:=aC hN
   have hq0:w.heap.size<w1.heap.size:=lt_of_block hN
   have hq1:¬w.heap.size=w1.heap.size:=by omega
   have hq2:¬w1.heap.size=w.heap.size:=by omega
   have HRR:=I hr
   have HMM:=I hm
   clear hr hm hR HR HC
   simp only[bh]
   go_wp21
   go_wp21
   exact aO (N:=w.heap.size) rfl rfl (aM hN t) (.inl ⟨t,k,hE.o,rfl,HRR.o.tok (by omega) (by omega) _ _ _ _ _ _ _ _,Mv.tok (((Mv.refl b w).alloc _).trans HMM.o) (ai _) _ _ _ _ _ _ _ _⟩)
  ·have hE:=I (HR.o.trans hR)
   have HMM:=I hm
   clear hm hR HR HC
   simp only[bU]
   go_wp2
   exact⟨rfl,.inr ⟨z,hE.o,rfl,((Mv.refl b w).alloc _).trans HMM.o⟩⟩
 by_cases hp41:p=41
 ·subst hp41
  have HR:Hid (bX l i 41=dW 3 l 41 i):=by show _=_;unfold bX;simp
  have HC:=I (gJ 41 _ hw0)
  clear h hw0 hm0 HR0
  go_enter func106,ntmps106
  go_wp2_with fail
  simp only[aw]at HC
  refine HC.o.mono ?_
  rintro e w1 (⟨t,k,hR,rfl,hr,hm⟩|⟨z,hR,rfl,hm⟩)
  ·have hE:=I (HR.o.trans hR)
   have hN:w1.heap[w.heap.size]? =some (aw {}):=hm.aH (aj _ _) (by omega)
   obtain⟨m0,m1,m2,m3,m4,m5,m6,m7⟩:=ae hN
   have fr0:=aC hN
   have hq0:w.heap.size<w1.heap.size:=lt_of_block hN
   have hq1:¬w.heap.size=w1.heap.size:=by omega
   have hq2:¬w1.heap.size=w.heap.size:=by omega
   have HRR:=I hr
   have HMM:=I hm
   clear hr hm hR HR HC
   simp only[bh]
   go_wp21
   go_wp21
   exact aO (N:=w.heap.size) rfl rfl (aM hN t) (.inl ⟨t,k,hE.o,rfl,HRR.o.tok (by omega) (by omega) _ _ _ _ _ _ _ _,Mv.tok (((Mv.refl b w).alloc _).trans HMM.o) (ai _) _ _ _ _ _ _ _ _⟩)
  ·have hE:=I (HR.o.trans hR)
   have HMM:=I hm
   clear hm hR HR HC
   simp only[bU]
   go_wp2
   exact⟨rfl,.inr ⟨z,hE.o,rfl,((Mv.refl b w).alloc _).trans HMM.o⟩⟩
 by_cases hp124:p=124
 ·subst hp124
  have HR:Hid (bX l i 124=dW 3 l 124 i):=by show _=_;unfold bX;simp
  have HC:=I (gJ 124 _ hw0)
  clear h hw0 hm0 HR0
  go_enter func106,ntmps106
  go_wp2_with fail
  simp only[aw]at HC
  refine HC.o.mono ?_
  rintro e w1 (⟨t,k,hR,rfl,hr,hm⟩|⟨z,hR,rfl,hm⟩)
  ·have hE:=I (HR.o.trans hR)
   have hN:w1.heap[w.heap.size]? =some (aw {}):=hm.aH (aj _ _) (by omega)
   obtain⟨m0,m1,m2,m3,m4,m5,m6,m7⟩:=ae hN
   have fr0:=aC hN
   have hq0:w.heap.size<w1.heap.size:=lt_of_block hN
   have hq1:¬w.heap.size=w1.heap.size:=by omega
   have hq2:¬w1.heap.size=w.heap.size:=by omega
   have HRR:=I hr
   have HMM:=I hm
   clear hr hm hR HR HC
   simp only[bh]
   go_wp21
   go_wp21
   exact aO (N:=w.heap.size) rfl rfl (aM hN t) (.inl ⟨t,k,hE.o,rfl,HRR.o.tok (by omega) (by omega) _ _ _ _ _ _ _ _,Mv.tok (((Mv.refl b w).alloc _).trans HMM.o) (ai _) _ _ _ _ _ _ _ _⟩)
  ·have hE:=I (HR.o.trans hR)
   have HMM:=I hm
   clear hm hR HR HC
   simp only[bU]
   go_wp2
   exact⟨rfl,.inr ⟨z,hE.o,rfl,((Mv.refl b w).alloc _).trans HMM.o⟩⟩
 by_cases hp123:p=123
 ·subst hp123
  have HR:Hid (bX l i 123=dW 3 l 123 i):=by show _=_;unfold bX;simp
  have HC:=I (gJ 123 _ hw0)
  clear h hw0 hm0 HR0
  go_enter func106,ntmps106
  go_wp2_with fail
  simp only[aw]at HC
  refine HC.o.mono ?_
  rintro e w1 (⟨t,k,hR,rfl,hr,hm⟩|⟨z,hR,rfl,hm⟩)
  ·have hE:=I (HR.o.trans hR)
   have hN:w1.heap[w.heap.size]? =some (aw {}):=hm.aH (aj _ _) (by omega)
   obtain⟨m0,m1,m2,m3,m4,m5,m6,m7⟩:=ae hN
   have fr0:=aC hN
   have hq0:w.heap.size<w1.heap.size:=lt_of_block hN
   have hq1:¬w.heap.size=w1.heap.size:=by omega
   have hq2:¬w1.heap.size=w.heap.size:=by omega
   have HRR:=I hr
   have HMM:=I hm
   clear hr hm hR HR HC
   simp only[bh]
   go_wp21
   go_wp21
   exact aO (N:=w.heap.size) rfl rfl (aM hN t) (.inl ⟨t,k,hE.o,rfl,HRR.o.tok (by omega) (by omega) _ _ _ _ _ _ _ _,Mv.tok (((Mv.refl b w).alloc _).trans HMM.o) (ai _) _ _ _ _ _ _ _ _⟩)
  ·have hE:=I (HR.o.trans hR)
   have HMM:=I hm
   clear hm hR HR HC
   simp only[bU]
   go_wp2
   exact⟨rfl,.inr ⟨z,hE.o,rfl,((Mv.refl b w).alloc _).trans HMM.o⟩⟩
 by_cases hp119:p=119
 ·subst hp119
  have hE:Hid (bX l i 119=.ok (ej (dS,false),i)):=by show _=_;unfold bX;simp
  clear h hw0
  go_enter func106,ntmps106
  go_wp2_with fail
  refine(cM _).mono ?_
  rintro e w1 ⟨rfl,hmap,hb1⟩
  have hl1:=EV hmap 119 false (by simp)
  have hr1:=HR0.o.ax hb1
  have hm1:Mv b (w.alloc (aw {})) w1:=Mv.U hb1
  have hlt1:=hr1.lt
  have hxw1:=hr1.xw
  clear hmap hb1
  simp only[gE,World.size_alloc]at hl1
  go_wp2_with fail
  refine(jW dS false _).mono ?_
  rintro e w3 ⟨rfl,hb3⟩
  have hr:=hr1.ax hb3
  have hm:=hm1.trans (Mv.U hb3)
  have hN:w3.heap[w.heap.size]? =some (aw {}):=hm.aH (aj _ _) (by omega)
  obtain⟨m0,m1,m2,m3,m4,m5,m6,m7⟩:=ae hN
  have fr0:=aC hN
  have hq0:w.heap.size<w3.heap.size:=lt_of_block hN
  have hq1:¬w.heap.size=w3.heap.size:=by omega
  have hq2:¬w3.heap.size=w.heap.size:=by omega
  have HRR:=I hr
  have HMM:=I hm
  clear hr hm hr1 hm1 hb3 hl1 HR0 hm0
  simp only[bh,ej]
  go_wp21
  go_wp21
  go_wp21
  exact aO (N:=w.heap.size) rfl rfl (aM hN (ej (dS,false))) (.inl ⟨(ej (dS,false)),i,hE.o,rfl,HRR.o.tok (by omega) (by omega) _ _ _ _ _ _ _ _,Mv.tok (((Mv.refl b w).alloc _).trans HMM.o) (ai _) _ _ _ _ _ _ _ _⟩)
 by_cases hp87:p=87
 ·subst hp87
  have hE:Hid (bX l i 87=.ok (ej (dS,true),i)):=by show _=_;unfold bX;simp
  clear h hw0
  go_enter func106,ntmps106
  go_wp2_with fail
  refine(cM _).mono ?_
  rintro e w1 ⟨rfl,hmap,hb1⟩
  have hl1:=EV hmap 87 true (by simp)
  have hr1:=HR0.o.ax hb1
  have hm1:Mv b (w.alloc (aw {})) w1:=Mv.U hb1
  have hlt1:=hr1.lt
  have hxw1:=hr1.xw
  clear hmap hb1
  simp only[gE,World.size_alloc]at hl1
  go_wp2_with fail
  refine(jW dS true _).mono ?_
  rintro e w3 ⟨rfl,hb3⟩
  have hr:=hr1.ax hb3
  have hm:=hm1.trans (Mv.U hb3)
  have hN:w3.heap[w.heap.size]? =some (aw {}):=hm.aH (aj _ _) (by omega)
  obtain⟨m0,m1,m2,m3,m4,m5,m6,m7⟩:=ae hN
  have fr0:=aC hN
  have hq0:w.heap.size<w3.heap.size:=lt_of_block hN
  have hq1:¬w.heap.size=w3.heap.size:=by omega
  have hq2:¬w3.heap.size=w.heap.size:=by omega
  have HRR:=I hr
  have HMM:=I hm
  clear hr hm hr1 hm1 hb3 hl1 HR0 hm0
  simp only[bh,ej]
  go_wp21
  go_wp21
  go_wp21
  exact aO (N:=w.heap.size) rfl rfl (aM hN (ej (dS,true))) (.inl ⟨(ej (dS,true)),i,hE.o,rfl,HRR.o.tok (by omega) (by omega) _ _ _ _ _ _ _ _,Mv.tok (((Mv.refl b w).alloc _).trans HMM.o) (ai _) _ _ _ _ _ _ _ _⟩)
 by_cases hp98:p=98
 ·subst hp98
  have hE:Hid (bX l i 98=.ok (bz 7,i)):=by show _=_;unfold bX;simp
  clear h hw0
  go_enter func106,ntmps106
  go_wp2_with fail
  refine(fl 7 _).mono ?_
  rintro e w2 ⟨rfl,hb2⟩
  have hr:=HR0.o.ax hb2
  have hm:=hm0.trans (Mv.U hb2)
  have hN:w2.heap[w.heap.size]? =some (aw {}):=hm.aH (aj _ _) (by omega)
  obtain⟨m0,m1,m2,m3,m4,m5,m6,m7⟩:=ae hN
  have fr0:=aC hN
  have hq0:w.heap.size<w2.heap.size:=lt_of_block hN
  have hq1:¬w.heap.size=w2.heap.size:=by omega
  have hq2:¬w2.heap.size=w.heap.size:=by omega
  have HRR:=I hr
  have HMM:=I hm
  clear hr hm HR0 hm0 hb2
  simp only[bh,bz]
  go_wp21
  go_wp21
  exact aO (N:=w.heap.size) rfl rfl (aM hN (bz 7)) (.inl ⟨(bz 7),i,hE.o,rfl,HRR.o.tok (by omega) (by omega) _ _ _ _ _ _ _ _,Mv.tok (((Mv.refl b w).alloc _).trans HMM.o) (ai _) _ _ _ _ _ _ _ _⟩)
 by_cases hp66:p=66
 ·subst hp66
  have hE:Hid (bX l i 66=.ok (bz 8,i)):=by show _=_;unfold bX;simp
  clear h hw0
  go_enter func106,ntmps106
  go_wp2_with fail
  refine(fl 8 _).mono ?_
  rintro e w2 ⟨rfl,hb2⟩
  have hr:=HR0.o.ax hb2
  have hm:=hm0.trans (Mv.U hb2)
  have hN:w2.heap[w.heap.size]? =some (aw {}):=hm.aH (aj _ _) (by omega)
  obtain⟨m0,m1,m2,m3,m4,m5,m6,m7⟩:=ae hN
  have fr0:=aC hN
  have hq0:w.heap.size<w2.heap.size:=lt_of_block hN
  have hq1:¬w.heap.size=w2.heap.size:=by omega
  have hq2:¬w2.heap.size=w.heap.size:=by omega
  have HRR:=I hr
  have HMM:=I hm
  clear hr hm HR0 hm0 hb2
  simp only[bh,bz]
  go_wp21
  go_wp21
  exact aO (N:=w.heap.size) rfl rfl (aM hN (bz 8)) (.inl ⟨(bz 8),i,hE.o,rfl,HRR.o.tok (by omega) (by omega) _ _ _ _ _ _ _ _,Mv.tok (((Mv.refl b w).alloc _).trans HMM.o) (ai _) _ _ _ _ _ _ _ _⟩)
 by_cases hp96:p=96
 ·subst hp96
  have hE:Hid (bX l i 96=.ok (bz 5,i)):=by show _=_;unfold bX;simp
  clear h hw0
  go_enter func106,ntmps106
  go_wp2_with fail
  refine(fl 5 _).mono ?_
  rintro e w2 ⟨rfl,hb2⟩
  have hr:=HR0.o.ax hb2
  have hm:=hm0.trans (Mv.U hb2)
  have hN:w2.heap[w.heap.size]? =some (aw {}):=hm.aH (aj _ _) (by omega)
  obtain⟨m0,m1,m2,m3,m4,m5,m6,m7⟩:=ae hN
  have fr0:=aC hN
  have hq0:w.heap.size<w2.heap.size:=lt_of_block hN
  have hq1:¬w.heap.size=w2.heap.size:=by omega
  have hq2:¬w2.heap.size=w.heap.size:=by omega
  have HRR:=I hr
  have HMM:=I hm
  clear hr hm HR0 hm0 hb2
  simp only[bh,bz]
  go_wp21
  go_wp21
  exact aO (N:=w.heap.size) rfl rfl (aM hN (bz 5)) (.inl ⟨(bz 5),i,hE.o,rfl,HRR.o.tok (by omega) (by omega) _ _ _ _ _ _ _ _,Mv.tok (((Mv.refl b w).alloc _).trans HMM.o) (ai _) _ _ _ _ _ _ _ _⟩)
 by_cases hp39:p=39
 ·subst hp39
  have hE:Hid (bX l i 39=.ok (bz 6,i)):=by show _=_;unfold bX;simp
  clear h hw0
  go_enter func106,ntmps106
  go_wp2_with fail
  refine(fl 6 _).mono ?_
  rintro e w2 ⟨rfl,hb2⟩
  have hr:=HR0.o.ax hb2
  have hm:=hm0.trans (Mv.U hb2)
  have hN:w2.heap[w.heap.size]? =some (aw {}):=hm.aH (aj _ _) (by omega)
  obtain⟨m0,m1,m2,m3,m4,m5,m6,m7⟩:=ae hN
  have fr0:=aC hN
  have hq0:w.heap.size<w2.heap.size:=lt_of_block hN
  have hq1:¬w.heap.size=w2.heap.size:=by omega
  have hq2:¬w2.heap.size=w.heap.size:=by omega
  have HRR:=I hr
  have HMM:=I hm
  clear hr hm HR0 hm0 hb2
  simp only[bh,bz]
  go_wp21
  go_wp21
  exact aO (N:=w.heap.size) rfl rfl (aM hN (bz 6)) (.inl ⟨(bz 6),i,hE.o,rfl,HRR.o.tok (by omega) (by omega) _ _ _ _ _ _ _ _,Mv.tok (((Mv.refl b w).alloc _).trans HMM.o) (ai _) _ _ _ _ _ _ _ _⟩)
 have hq40:(p==40)=false:=by simpa using hp40
 have hq41:(p==41)=false:=by simpa using hp41
 have hq124:(p==124)=false:=by simpa using hp124
 have hq123:(p==123)=false:=by simpa using hp123
 have hq119:(p==119)=false:=by simpa using hp119
 have hq87:(p==87)=false:=by simpa using hp87
 have hq98:(p==98)=false:=by simpa using hp98
 have hq66:(p==66)=false:=by simpa using hp66
 have hq96:(p==96)=false:=by simpa using hp96
 have hq39:(p==39)=false:=by simpa using hp39
 by_cases hdg:49<=p/\p<=57
 ·have hE:Hid (bX l i p=.ok (aU (p - 48),i)):=by show _=_;unfold bX;simp[hp40,hp41,hp124,hp123,hp119,hp87,hp98,hp66,hp96,hp39,hdg]
  obtain⟨hd1,hd2⟩:=hdg
  clear hp40 hp41 hp124 hp123 hp119 hp87 hp98 hp66 hp96 hp39 h hw0
  go_enter func106,ntmps106
  go_wp2_with fail
  refine(eS (p - 48) _).mono ?_
  rintro e w2 ⟨rfl,hb2⟩
  have hr:=HR0.o.ax hb2
  have hm:=hm0.trans (Mv.U hb2)
  have hN:w2.heap[w.heap.size]? =some (aw {}):=hm.aH (aj _ _) (by omega)
  obtain⟨m0,m1,m2,m3,m4,m5,m6,m7⟩:=ae hN
  have fr0:=aC hN
  have hq0:w.heap.size<w2.heap.size:=lt_of_block hN
  have hq1:¬w.heap.size=w2.heap.size:=by omega
  have hq2:¬w2.heap.size=w.heap.size:=by omega
  have HRR:=I hr
  have HMM:=I hm
  clear hr hm HR0 hm0 hb2
  simp only[bh,aU]
  go_wp21
  go_wp21
  exact aO (N:=w.heap.size) rfl rfl (aM hN (aU (p - 48))) (.inl ⟨(aU (p - 48)),i,hE.o,rfl,HRR.o.tok (by omega) (by omega) _ _ _ _ _ _ _ _,Mv.tok (((Mv.refl b w).alloc _).trans HMM.o) (ai _) _ _ _ _ _ _ _ _⟩)
 ·have hE:Hid (bX l i p=.ok (aR p,i)):=by show _=_;unfold bX;simp[hp40,hp41,hp124,hp123,hp119,hp87,hp98,hp66,hp96,hp39];intro h1 h2;exact absurd ⟨h1,h2⟩ hdg
  clear hp40 hp41 hp124 hp123 hp119 hp87 hp98 hp66 hp96 hp39 h hw0
  by_cases h49:49<=p
  ·have h57:¬p<=57:=by omega
   clear hdg
   go_enter func106,ntmps106
   go_wp2_with fail
   refine(eo p _).mono ?_
   rintro e w2 ⟨rfl,hb2⟩
   have hr:=HR0.o.ax hb2
   have hm:=hm0.trans (Mv.U hb2)
   have hN:w2.heap[w.heap.size]? =some (aw {}):=hm.aH (aj _ _) (by omega)
   obtain⟨m0,m1,m2,m3,m4,m5,m6,m7⟩:=ae hN
   have fr0:=aC hN
   have hq0:w.heap.size<w2.heap.size:=lt_of_block hN
   have hq1:¬w.heap.size=w2.heap.size:=by omega
   have hq2:¬w2.heap.size=w.heap.size:=by omega
   have HRR:=I hr
   have HMM:=I hm
   clear hr hm HR0 hm0 hb2
   simp only[bh,aR]
   go_wp21
   go_wp21
   exact aO (N:=w.heap.size) rfl rfl (aM hN (aR p)) (.inl ⟨(aR p),i,hE.o,rfl,HRR.o.tok (by omega) (by omega) _ _ _ _ _ _ _ _,Mv.tok (((Mv.refl b w).alloc _).trans HMM.o) (ai _) _ _ _ _ _ _ _ _⟩)
  ·clear hdg
   go_enter func106,ntmps106
   go_wp2_with fail
   refine(eo p _).mono ?_
   rintro e w2 ⟨rfl,hb2⟩
   have hr:=HR0.o.ax hb2
   have hm:=hm0.trans (Mv.U hb2)
   have hN:w2.heap[w.heap.size]? =some (aw {}):=hm.aH (aj _ _) (by omega)
   obtain⟨m0,m1,m2,m3,m4,m5,m6,m7⟩:=ae hN
   have fr0:=aC hN
   have hq0:w.heap.size<w2.heap.size:=lt_of_block hN
   have hq1:¬w.heap.size=w2.heap.size:=by omega
   have hq2:¬w2.heap.size=w.heap.size:=by omega
   have HRR:=I hr
   have HMM:=I hm
   clear hr hm HR0 hm0 hb2
   simp only[bh,aR]
   go_wp21
   go_wp21
   exact aO (N:=w.heap.size) rfl rfl (aM hN (aR p)) (.inl ⟨(aR p),i,hE.o,rfl,HRR.o.tok (by omega) (by omega) _ _ _ _ _ _ _ _,Mv.tok (((Mv.refl b w).alloc _).trans HMM.o) (ai _) _ _ _ _ _ _ _ _⟩)
theorem zt{b:Nat}{x:Addr}{c:Nat}{l:List Int}{i:Nat}{d:Int}(w:World)(h:RB w b x c l i d):Calls prog 92 #[.pointer (some ⟨b,0,none⟩)] w fun e w'=>nh b x c l d w (jx d l i) e w':=by
 have hlt:=h.lt
 have hxw:=h.xw
 have hat:=h.at'
 have hw0:=h.alloc (aw {})
 by_cases hi:i<l.length
 ·have HT:=I (rO _ hw0 hi)
  have hE0:Hid (jx d l i=(if d=1 then dj l (i+1) l[i]else if d=3 then bX l (i+1) l[i]else .ok (aR l[i],i+1))):=by show _=_;unfold jx;rw[List.getElem?_eq_getElem hi]
  obtain⟨p,hp⟩:=J (l[i])
  rw[<- hp]at HT hE0
  clear h hw0 hp
  by_cases hd1:d=1
  ·subst hd1
   have HR:Hid (jx 1 l i=dj l (i+1) p):=by show _=_;rw[hE0.o,if_pos rfl]
   clear hE0
   go_enter func92,ntmps92
   go_wp2_with fail
   simp only[aw]at HT
   refine HT.o.mono ?_
   rintro e w1 ⟨rfl,hr1,hm1⟩
   obtain⟨c0,c1,c2,f1⟩:=hr1.cells
   go_wp2_with fail
   refine(FW p w1 hr1).mono ?_
   rintro e w3 (⟨t,k,hR,rfl,hr,hm9⟩|⟨z,hR,rfl,hm9⟩)
   ·have hE:=I (HR.o.trans hR)
    have hm:=hm1.trans hm9
    have hN:w3.heap[w.heap.size]? =some (aw {}):=hm.aH (aj _ _) (by omega)
    obtain⟨m0,m1,m2,m3,m4,m5,m6,m7⟩:=ae hN
    have fr0:=aC hN
    have hq0:w.heap.size<w3.heap.size:=lt_of_block hN
    have hq1:¬w.heap.size=w3.heap.size:=by omega
    have hq2:¬w3.heap.size=w.heap.size:=by omega
    have HRR:=I hr
    have HMM:=I hm
    clear hr hm hm9 hR HR hr1 hm1 HT c0 c1 c2 f1
    simp only[bh]
    go_wp21
    go_wp21
    exact aO (N:=w.heap.size) rfl rfl (aM hN t) (.inl ⟨t,k,hE.o,rfl,HRR.o.tok (by omega) (by omega) _ _ _ _ _ _ _ _,Mv.tok (((Mv.refl b w).alloc _).trans HMM.o) (ai _) _ _ _ _ _ _ _ _⟩)
   ·have hE:=I (HR.o.trans hR)
    have hm:=hm1.trans hm9
    have HMM:=I hm
    clear hm hm9 hR HR hr1 hm1 HT c0 c1 c2 f1
    simp only[bU]
    go_wp2
    exact⟨rfl,.inr ⟨z,hE.o,rfl,((Mv.refl b w).alloc _).trans HMM.o⟩⟩
  ·by_cases hd3:d=3
   ·subst hd3
    have HR:Hid (jx 3 l i=bX l (i+1) p):=by show _=_;rw[hE0.o,if_neg (by omega),if_pos rfl]
    clear hE0
    go_enter func92,ntmps92
    go_wp2_with fail
    simp only[aw]at HT
    refine HT.o.mono ?_
    rintro e w1 ⟨rfl,hr1,hm1⟩
    obtain⟨c0,c1,c2,f1⟩:=hr1.cells
    go_wp2_with fail
    refine(Cl p w1 hr1 rfl).mono ?_
    rintro e w3 (⟨t,k,hR,rfl,hr,hm9⟩|⟨z,hR,rfl,hm9⟩)
    ·have hE:=I (HR.o.trans hR)
     have hm:=hm1.trans hm9
     have hN:w3.heap[w.heap.size]? =some (aw {}):=hm.aH (aj _ _) (by omega)
     obtain⟨m0,m1,m2,m3,m4,m5,m6,m7⟩:=ae hN
     have fr0:=aC hN
     have hq0:w.heap.size<w3.heap.size:=lt_of_block hN
     have hq1:¬w.heap.size=w3.heap.size:=by omega
     have hq2:¬w3.heap.size=w.heap.size:=by omega
     have HRR:=I hr
     have HMM:=I hm
     clear hr hm hm9 hR HR hr1 hm1 HT c0 c1 c2 f1
     simp only[bh]
     go_wp21
     go_wp21
     exact aO (N:=w.heap.size) rfl rfl (aM hN t) (.inl ⟨t,k,hE.o,rfl,HRR.o.tok (by omega) (by omega) _ _ _ _ _ _ _ _,Mv.tok (((Mv.refl b w).alloc _).trans HMM.o) (ai _) _ _ _ _ _ _ _ _⟩)
    ·have hE:=I (HR.o.trans hR)
     have hm:=hm1.trans hm9
     have HMM:=I hm
     clear hm hm9 hR HR hr1 hm1 HT c0 c1 c2 f1
     simp only[bU]
     go_wp2
     exact⟨rfl,.inr ⟨z,hE.o,rfl,((Mv.refl b w).alloc _).trans HMM.o⟩⟩
   ·have hE:Hid (jx d l i=.ok (aR p,i+1)):=by show _=_;rw[hE0.o,if_neg hd1,if_neg hd3]
    have hq1:(d==1)=false:=by simpa using hd1
    have hq3:(d==3)=false:=by simpa using hd3
    clear hE0 hd1 hd3
    go_enter func92,ntmps92
    go_wp2_with fail
    simp only[aw]at HT
    refine HT.o.mono ?_
    rintro e w1 ⟨rfl,hr1,hm1⟩
    obtain⟨c0,c1,c2,f1⟩:=hr1.cells
    go_wp2_with fail
    refine(eo p w1).mono ?_
    rintro e w2 ⟨rfl,hb2⟩
    have hr:=hr1.ax hb2
    have hm:=hm1.trans (Mv.U hb2)
    have hN:w2.heap[w.heap.size]? =some (aw {}):=hm.aH (aj _ _) (by omega)
    obtain⟨m0,m1,m2,m3,m4,m5,m6,m7⟩:=ae hN
    have fr0:=aC hN
    have hq0:w.heap.size<w2.heap.size:=lt_of_block hN
    have hq7:¬w.heap.size=w2.heap.size:=by omega
    have hq8:¬w2.heap.size=w.heap.size:=by omega
    have HRR:=I hr
    have HMM:=I hm
    clear hr hm hr1 hm1 hb2 HT c0 c1 c2 f1
    simp only[bh,aR]
    go_wp21
    go_wp21
    go_wp21
    exact aO (N:=w.heap.size) rfl rfl (aM hN (aR p)) (.inl ⟨(aR p),(i+1),hE.o,rfl,HRR.o.tok (by omega) (by omega) _ _ _ _ _ _ _ _,Mv.tok (((Mv.refl b w).alloc _).trans HMM.o) (ai _) _ _ _ _ _ _ _ _⟩)
 ·have HT:=I (Bn _ hw0 hi)
  have hE:Hid (jx d l i=.error 1):=by show _=_;unfold jx;rw[List.getElem?_eq_none (by omega)]
  clear h hw0
  go_enter func92,ntmps92
  go_wp2_with fail
  simp only[aw]at HT
  refine HT.o.mono ?_
  rintro e w1 ⟨rfl,hm⟩
  have HMM:=I hm
  clear hm HT
  simp only[bU]
  go_wp2
  exact⟨rfl,.inr ⟨1,hE.o,rfl,((Mv.refl b w).alloc _).trans HMM.o⟩⟩
end Go.Proofs.YtklbbbldalmnbaaGreatDoor.TK
