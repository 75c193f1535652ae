import Derived.Test.YtklbbbldalmnbaaGreatDoorKH
set_option maxHeartbeats 16000000
set_option linter.unusedVariables false
set_option maxRecDepth 100000
open Go.Proofs.Tryz
namespace Go.Proofs.YtklbbbldalmnbaaGreatDoor.TK
open Go.RowKit
theorem Ea{b:Nat}{x:Addr}{c:Nat}{l:List Int}{i:Nat}{d:Int}(p:Int)(c9:ByteArray×Bool)(w:World)(h:RB w b x c l i d)(hcl:jc p=some c9):Calls prog 105 #[.pointer (some ⟨b,0,none⟩),.int .i64 p] w fun e w'=>mV b x c l d w (cU l i p) e w':=by
 have hlt:=h.lt
 have hxw:=h.xw
 have hat:=h.at'
 have hw0:=h.alloc (aq {})
 have HR0:=I hw0
 have hE:Hid (cU l i p=.ok (dS c9,i)):=by show _=_;unfold cU;rw[hcl]
 obtain⟨cn,cg⟩:=c9
 clear h hw0
 go_enter func105,ntmps105
 go_wp2_with fail
 refine(cC _).mono ?_
 rintro e w1 ⟨rfl,hmap,hb1⟩
 have hl1:=dB hmap p
 have hr1:=HR0.o.ar hb1
 have hm1:Mv b (w.alloc (aq {})) w1:=Mv.ae hb1
 have hlt1:=hr1.lt
 have hxw1:=hr1.xw
 have hz1:w.heap.size+1<=w1.heap.size:=by have:=hm1.size;simpa using this
 clear hmap hb1
 simp only[hcl,gz,Option.isSome_some,World.size_alloc]at hl1
 clear hcl HR0
 have hr2:=hr1.alloc (.cells #[.string cn,.bool cg] 146)
 have hm2:=hm1.alloc (.cells #[.string cn,.bool cg] 146)
 go_wp2_with fail
 refine(jK cn cg _).mono ?_
 rintro e w3 ⟨rfl,hb3⟩
 have hr:=hr2.ar hb3
 have hm:=hm2.trans (Mv.ae hb3)
 have hN:w3.heap[w.heap.size]? =some (aq {}):=hm.aC (aj _ _) (by omega)
 obtain⟨m0,m1,m2,m3,m4,m5,m6,m7⟩:=ai hN
 have fr0:=au hN
 have hq0:w.heap.size<w3.heap.size:=lt_of_block hN
 have hq1:¬w.heap.size=w3.heap.size:=by omega
 have hq2:¬w3.heap.size=w.heap.size:=by omega
 have HRR:=I hr
 have HMM:=I hm
 clear hr hm hr1 hm1 hr2 hm2 hb3 hl1
 simp only[aZ,dS]
 go_wp21
 go_wp21
 go_wp21
 exact aK (N:=w.heap.size) rfl rfl (aI hN (dS (cn,cg))) (.inl ⟨(dS (cn,cg)),i,hE.o,rfl,HRR.o.tok (by omega) (by omega) _ _ _ _ _ _ _ _,Mv.tok (((Mv.refl b w).alloc _).trans HMM.o) (U _) _ _ _ _ _ _ _ _⟩)
theorem FL{b:Nat}{x:Addr}{c:Nat}{l:List Int}{i:Nat}{d:Int}(p:Int)(w:World)(h:RB w b x c l i d)(hcl:jc p=none):Calls prog 105 #[.pointer (some ⟨b,0,none⟩),.int .i64 p] w fun e w'=>mV b x c l d w (cU l i p) e w':=by
 have hlt:=h.lt
 have hxw:=h.xw
 have hat:=h.at'
 have hw0:=h.alloc (aq {})
 have HR0:=I hw0
 have hE0:Hid (cU l i p=(if p=65 then .ok (bn 5,i)else if p=122 then .ok (bn 6,i)else if p=98 then .ok (bn 7,i)else if p=66 then .ok (bn 8,i)else if p=120 then fC l i else if p=117 then kz l i else if p=107 then eM l i else if 49<=p/\p<=57 then .ok (jB l i (p - 48))else match iA p with| .ok q=>.ok (aM q,i)| .error e=>.error e)):=by show _=_;unfold cU;simp only[hcl];rfl
 clear h hw0
 by_cases hp65:p=65
 ·subst hp65
  have hE:Hid (cU l i 65=.ok (bn 5,i)):=by show _=_;rw[hE0.o];simp
  clear hcl hE0
  go_enter func105,ntmps105
  go_wp2_with fail
  refine(cC _).mono ?_
  rintro e w1 ⟨rfl,hmap,hb1⟩
  have hl1:=dB hmap 65
  have hr1:=HR0.o.ar hb1
  have hm1:Mv b (w.alloc (aq {})) w1:=Mv.ae hb1
  have hlt1:=hr1.lt
  have hxw1:=hr1.xw
  have hz1:w.heap.size+1<=w1.heap.size:=by have:=hm1.size;simpa using this
  clear hmap hb1
  have hcl:jc 65=none:=by decide +kernel
  simp only[hcl,gz,Option.isSome_none,World.size_alloc]at hl1
  clear hcl
  clear HR0
  have hr2:=hr1.alloc (.cells #[.string ⟨#[]⟩,.bool false] 146)
  have hm2:=hm1.alloc (.cells #[.string ⟨#[]⟩,.bool false] 146)
  go_wp2_with fail
  refine(eP 5 _).mono ?_
  rintro e w3 ⟨rfl,hb3⟩
  have hr:=hr2.ar hb3
  have hm:=hm2.trans (Mv.ae hb3)
  have hN:w3.heap[w.heap.size]? =some (aq {}):=hm.aC (aj _ _) (by omega)
  obtain⟨m0,m1,m2,m3,m4,m5,m6,m7⟩:=ai hN
  have fr0:=au hN
  have hq0:w.heap.size<w3.heap.size:=lt_of_block hN
  have hq1:¬w.heap.size=w3.heap.size:=by omega
  have hq2:¬w3.heap.size=w.heap.size:=by omega
  have HRR:=I hr
  have HMM:=I hm
  clear hr hm hr1 hm1 hr2 hm2 hb3 hl1
  simp only[aZ,bn]
  go_wp21
  go_wp21
  go_wp21
  exact aK (N:=w.heap.size) rfl rfl (aI hN (bn 5)) (.inl ⟨(bn 5),i,hE.o,rfl,HRR.o.tok (by omega) (by omega) _ _ _ _ _ _ _ _,Mv.tok (((Mv.refl b w).alloc _).trans HMM.o) (U _) _ _ _ _ _ _ _ _⟩)
 by_cases hp122:p=122
 ·subst hp122
  have hE:Hid (cU l i 122=.ok (bn 6,i)):=by show _=_;rw[hE0.o];simp
  clear hcl hE0
  go_enter func105,ntmps105
  go_wp2_with fail
  refine(cC _).mono ?_
  rintro e w1 ⟨rfl,hmap,hb1⟩
  have hl1:=dB hmap 122
  have hr1:=HR0.o.ar hb1
  have hm1:Mv b (w.alloc (aq {})) w1:=Mv.ae hb1
  have hlt1:=hr1.lt
  have hxw1:=hr1.xw
  have hz1:w.heap.size+1<=w1.heap.size:=by have:=hm1.size;simpa using this
  clear hmap hb1
  have hcl:jc 122=none:=by decide +kernel
  simp only[hcl,gz,Option.isSome_none,World.size_alloc]at hl1
  clear hcl
  clear HR0
  have hr2:=hr1.alloc (.cells #[.string ⟨#[]⟩,.bool false] 146)
  have hm2:=hm1.alloc (.cells #[.string ⟨#[]⟩,.bool false] 146)
  go_wp2_with fail
  refine(eP 6 _).mono ?_
  rintro e w3 ⟨rfl,hb3⟩
  have hr:=hr2.ar hb3
  have hm:=hm2.trans (Mv.ae hb3)
  have hN:w3.heap[w.heap.size]? =some (aq {}):=hm.aC (aj _ _) (by omega)
  obtain⟨m0,m1,m2,m3,m4,m5,m6,m7⟩:=ai hN
  have fr0:=au hN
  have hq0:w.heap.size<w3.heap.size:=lt_of_block hN
  have hq1:¬w.heap.size=w3.heap.size:=by omega
  have hq2:¬w3.heap.size=w.heap.size:=by omega
  have HRR:=I hr
  have HMM:=I hm
  clear hr hm hr1 hm1 hr2 hm2 hb3 hl1
  simp only[aZ,bn]
  go_wp21
  go_wp21
  go_wp21
  exact aK (N:=w.heap.size) rfl rfl (aI hN (bn 6)) (.inl ⟨(bn 6),i,hE.o,rfl,HRR.o.tok (by omega) (by omega) _ _ _ _ _ _ _ _,Mv.tok (((Mv.refl b w).alloc _).trans HMM.o) (U _) _ _ _ _ _ _ _ _⟩)
 by_cases hp98:p=98
 ·subst hp98
  have hE:Hid (cU l i 98=.ok (bn 7,i)):=by show _=_;rw[hE0.o];simp
  clear hcl hE0
  go_enter func105,ntmps105
  go_wp2_with fail
  refine(cC _).mono ?_
  rintro e w1 ⟨rfl,hmap,hb1⟩
  have hl1:=dB hmap 98
  have hr1:=HR0.o.ar hb1
  have hm1:Mv b (w.alloc (aq {})) w1:=Mv.ae hb1
  have hlt1:=hr1.lt
  have hxw1:=hr1.xw
  have hz1:w.heap.size+1<=w1.heap.size:=by have:=hm1.size;simpa using this
  clear hmap hb1
  have hcl:jc 98=none:=by decide +kernel
  simp only[hcl,gz,Option.isSome_none,World.size_alloc]at hl1
  clear hcl
  clear HR0
  have hr2:=hr1.alloc (.cells #[.string ⟨#[]⟩,.bool false] 146)
  have hm2:=hm1.alloc (.cells #[.string ⟨#[]⟩,.bool false] 146)
  go_wp2_with fail
  refine(eP 7 _).mono ?_
  rintro e w3 ⟨rfl,hb3⟩
  have hr:=hr2.ar hb3
  have hm:=hm2.trans (Mv.ae hb3)
  have hN:w3.heap[w.heap.size]? =some (aq {}):=hm.aC (aj _ _) (by omega)
  obtain⟨m0,m1,m2,m3,m4,m5,m6,m7⟩:=ai hN
  have fr0:=au hN
  have hq0:w.heap.size<w3.heap.size:=lt_of_block hN
  have hq1:¬w.heap.size=w3.heap.size:=by omega
  have hq2:¬w3.heap.size=w.heap.size:=by omega
  have HRR:=I hr
  have HMM:=I hm
  clear hr hm hr1 hm1 hr2 hm2 hb3 hl1
  simp only[aZ,bn]
  go_wp21
  go_wp21
  go_wp21
  exact aK (N:=w.heap.size) rfl rfl (aI hN (bn 7)) (.inl ⟨(bn 7),i,hE.o,rfl,HRR.o.tok (by omega) (by omega) _ _ _ _ _ _ _ _,Mv.tok (((Mv.refl b w).alloc _).trans HMM.o) (U _) _ _ _ _ _ _ _ _⟩)
 by_cases hp66:p=66
 ·subst hp66
  have hE:Hid (cU l i 66=.ok (bn 8,i)):=by show _=_;rw[hE0.o];simp
  clear hcl hE0
  go_enter func105,ntmps105
  go_wp2_with fail
  refine(cC _).mono ?_
  rintro e w1 ⟨rfl,hmap,hb1⟩
  have hl1:=dB hmap 66
  have hr1:=HR0.o.ar hb1
  have hm1:Mv b (w.alloc (aq {})) w1:=Mv.ae hb1
  have hlt1:=hr1.lt
  have hxw1:=hr1.xw
  have hz1:w.heap.size+1<=w1.heap.size:=by have:=hm1.size;simpa using this
  clear hmap hb1
  have hcl:jc 66=none:=by decide +kernel
  simp only[hcl,gz,Option.isSome_none,World.size_alloc]at hl1
  clear hcl
  clear HR0
  have hr2:=hr1.alloc (.cells #[.string ⟨#[]⟩,.bool false] 146)
  have hm2:=hm1.alloc (.cells #[.string ⟨#[]⟩,.bool false] 146)
  go_wp2_with fail
  refine(eP 8 _).mono ?_
  rintro e w3 ⟨rfl,hb3⟩
  have hr:=hr2.ar hb3
  have hm:=hm2.trans (Mv.ae hb3)
  have hN:w3.heap[w.heap.size]? =some (aq {}):=hm.aC (aj _ _) (by omega)
  obtain⟨m0,m1,m2,m3,m4,m5,m6,m7⟩:=ai hN
  have fr0:=au hN
  have hq0:w.heap.size<w3.heap.size:=lt_of_block hN
  have hq1:¬w.heap.size=w3.heap.size:=by omega
  have hq2:¬w3.heap.size=w.heap.size:=by omega
  have HRR:=I hr
  have HMM:=I hm
  clear hr hm hr1 hm1 hr2 hm2 hb3 hl1
  simp only[aZ,bn]
  go_wp21
  go_wp21
  go_wp21
  exact aK (N:=w.heap.size) rfl rfl (aI hN (bn 8)) (.inl ⟨(bn 8),i,hE.o,rfl,HRR.o.tok (by omega) (by omega) _ _ _ _ _ _ _ _,Mv.tok (((Mv.refl b w).alloc _).trans HMM.o) (U _) _ _ _ _ _ _ _ _⟩)
 by_cases hp120:p=120
 ·subst hp120
  have HR:Hid (cU l i 120=fC l i):=by show _=_;rw[hE0.o];simp
  clear hcl hE0
  go_enter func105,ntmps105
  go_wp2_with fail
  refine(cC _).mono ?_
  rintro e w1 ⟨rfl,hmap,hb1⟩
  have hl1:=dB hmap 120
  have hr1:=HR0.o.ar hb1
  have hm1:Mv b (w.alloc (aq {})) w1:=Mv.ae hb1
  have hlt1:=hr1.lt
  have hxw1:=hr1.xw
  have hz1:w.heap.size+1<=w1.heap.size:=by have:=hm1.size;simpa using this
  clear hmap hb1
  have hcl:jc 120=none:=by decide +kernel
  simp only[hcl,gz,Option.isSome_none,World.size_alloc]at hl1
  clear hcl
  clear HR0
  have hr2:=hr1.alloc (.cells #[.string ⟨#[]⟩,.bool false] 146)
  have hm2:=hm1.alloc (.cells #[.string ⟨#[]⟩,.bool false] 146)
  go_wp2_with fail
  refine(tW _ hr2).mono ?_
  rintro e w3 (⟨t,k,hR,rfl,hr,hm9⟩|⟨z,hR,rfl,hm9⟩)
  ·have hE:=I (HR.o.trans hR)
   have hm:=hm2.trans hm9
   have hN:w3.heap[w.heap.size]? =some (aq {}):=hm.aC (aj _ _) (by omega)
   obtain⟨m0,m1,m2,m3,m4,m5,m6,m7⟩:=ai hN
   have fr0:=au hN
   have hq0:w.heap.size<w3.heap.size:=lt_of_block hN
   have hq1:¬w.heap.size=w3.heap.size:=by omega
   have hq2:¬w3.heap.size=w.heap.size:=by omega
   have HRR:=I hr
   have HMM:=I hm
   clear hr hm hm9 hR HR hr1 hm1 hr2 hm2 hl1
   simp only[aZ]
   go_wp21
   go_wp21
   exact aK (N:=w.heap.size) rfl rfl (aI hN t) (.inl ⟨t,k,hE.o,rfl,HRR.o.tok (by omega) (by omega) _ _ _ _ _ _ _ _,Mv.tok (((Mv.refl b w).alloc _).trans HMM.o) (U _) _ _ _ _ _ _ _ _⟩)
  ·have hE:=I (HR.o.trans hR)
   have hm:=hm2.trans hm9
   have HMM:=I hm
   clear hm hm9 hR HR hr1 hm1 hr2 hm2 hl1
   simp only[bK]
   go_wp2
   exact⟨rfl,.inr ⟨z,hE.o,rfl,((Mv.refl b w).alloc _).trans HMM.o⟩⟩
 by_cases hp107:p=107
 ·subst hp107
  have HR:Hid (cU l i 107=eM l i):=by show _=_;rw[hE0.o];simp
  clear hcl hE0
  go_enter func105,ntmps105
  go_wp2_with fail
  refine(cC _).mono ?_
  rintro e w1 ⟨rfl,hmap,hb1⟩
  have hl1:=dB hmap 107
  have hr1:=HR0.o.ar hb1
  have hm1:Mv b (w.alloc (aq {})) w1:=Mv.ae hb1
  have hlt1:=hr1.lt
  have hxw1:=hr1.xw
  have hz1:w.heap.size+1<=w1.heap.size:=by have:=hm1.size;simpa using this
  clear hmap hb1
  have hcl:jc 107=none:=by decide +kernel
  simp only[hcl,gz,Option.isSome_none,World.size_alloc]at hl1
  clear hcl
  clear HR0
  have hr2:=hr1.alloc (.cells #[.string ⟨#[]⟩,.bool false] 146)
  have hm2:=hm1.alloc (.cells #[.string ⟨#[]⟩,.bool false] 146)
  go_wp2_with fail
  refine(wG _ hr2).mono ?_
  rintro e w3 (⟨t,k,hR,rfl,hr,hm9⟩|⟨z,hR,rfl,hm9⟩)
  ·have hE:=I (HR.o.trans hR)
   have hm:=hm2.trans hm9
   have hN:w3.heap[w.heap.size]? =some (aq {}):=hm.aC (aj _ _) (by omega)
   obtain⟨m0,m1,m2,m3,m4,m5,m6,m7⟩:=ai hN
   have fr0:=au hN
   have hq0:w.heap.size<w3.heap.size:=lt_of_block hN
   have hq1:¬w.heap.size=w3.heap.size:=by omega
   have hq2:¬w3.heap.size=w.heap.size:=by omega
   have HRR:=I hr
   have HMM:=I hm
   clear hr hm hm9 hR HR hr1 hm1 hr2 hm2 hl1
   simp only[aZ]
   go_wp21
   go_wp21
   exact aK (N:=w.heap.size) rfl rfl (aI hN t) (.inl ⟨t,k,hE.o,rfl,HRR.o.tok (by omega) (by omega) _ _ _ _ _ _ _ _,Mv.tok (((Mv.refl b w).alloc _).trans HMM.o) (U _) _ _ _ _ _ _ _ _⟩)
  ·have hE:=I (HR.o.trans hR)
   have hm:=hm2.trans hm9
   have HMM:=I hm
   clear hm hm9 hR HR hr1 hm1 hr2 hm2 hl1
   simp only[bK]
   go_wp2
   exact⟨rfl,.inr ⟨z,hE.o,rfl,((Mv.refl b w).alloc _).trans HMM.o⟩⟩
 by_cases hp117:p=117
 ·subst hp117
  have HR:Hid (cU l i 117=kz l i):=by show _=_;rw[hE0.o];simp
  obtain⟨n,k,he,hr0⟩:=eG 16 4 l i hat (Or.inr rfl)
  by_cases hk:k<4
  ·have hE:Hid (cU l i 117=.error 1):=by show _=_;rw[HR.o];unfold kz;simp only[he];rw[if_pos hk]
   have HX:=I (fun w1 (h1:RB w1 b x c l i d)=>tA (least:=4) w1 h1 (by omega) (by omega) he hk)
   clear hcl hE0 he hr0 HR
   go_enter func105,ntmps105
   go_wp2_with fail
   refine(cC _).mono ?_
   rintro e w1 ⟨rfl,hmap,hb1⟩
   have hl1:=dB hmap 117
   have hr1:=HR0.o.ar hb1
   have hm1:Mv b (w.alloc (aq {})) w1:=Mv.ae hb1
   have hlt1:=hr1.lt
   have hxw1:=hr1.xw
   have hz1:w.heap.size+1<=w1.heap.size:=by have:=hm1.size;simpa using this
   clear hmap hb1
   have hcl:jc 117=none:=by decide +kernel
   simp only[hcl,gz,Option.isSome_none,World.size_alloc]at hl1
   clear hcl
   clear HR0
   have hr2:=hr1.alloc (.cells #[.string ⟨#[]⟩,.bool false] 146)
   have hm2:=hm1.alloc (.cells #[.string ⟨#[]⟩,.bool false] 146)
   go_wp2_with fail
   refine(HX.o _ hr2).mono ?_
   rintro e w3 ⟨rfl,hm3⟩
   have hm:=hm2.trans hm3
   have HMM:=I hm
   clear hm hr1 hm1 hr2 hm2 hm3 HX hl1
   simp only[bK]
   go_wp2
   exact⟨rfl,.inr ⟨1,hE.o,rfl,((Mv.refl b w).alloc _).trans HMM.o⟩⟩
  ·have hE:Hid (cU l i 117=.ok (aM n,i+k)):=by show _=_;rw[HR.o];unfold kz;simp only[he];rw[if_neg hk]
   have HX:=I (fun w1 (h1:RB w1 b x c l i d)=>yD (least:=4) w1 h1 (by omega) (by omega) he (by omega))
   clear hcl hE0 he hr0 HR
   go_enter func105,ntmps105
   go_wp2_with fail
   refine(cC _).mono ?_
   rintro e w1 ⟨rfl,hmap,hb1⟩
   have hl1:=dB hmap 117
   have hr1:=HR0.o.ar hb1
   have hm1:Mv b (w.alloc (aq {})) w1:=Mv.ae hb1
   have hlt1:=hr1.lt
   have hxw1:=hr1.xw
   have hz1:w.heap.size+1<=w1.heap.size:=by have:=hm1.size;simpa using this
   clear hmap hb1
   have hcl:jc 117=none:=by decide +kernel
   simp only[hcl,gz,Option.isSome_none,World.size_alloc]at hl1
   clear hcl
   clear HR0
   have hr2:=hr1.alloc (.cells #[.string ⟨#[]⟩,.bool false] 146)
   have hm2:=hm1.alloc (.cells #[.string ⟨#[]⟩,.bool false] 146)
   go_wp2_with fail
   refine(HX.o _ hr2).mono ?_
   rintro e w3 ⟨rfl,hr3,hm3⟩
   go_wp2_with fail
   refine(dM n w3).mono ?_
   rintro e w4 ⟨rfl,hb4⟩
   have hr:=hr3.ar hb4
   have hm:=(hm2.trans hm3).trans (Mv.ae hb4)
   have hN:w4.heap[w.heap.size]? =some (aq {}):=hm.aC (aj _ _) (by omega)
   obtain⟨m0,m1,m2,m3,m4,m5,m6,m7⟩:=ai hN
   have fr0:=au hN
   have hq0:w.heap.size<w4.heap.size:=lt_of_block hN
   have hq1:¬w.heap.size=w4.heap.size:=by omega
   have hq2:¬w4.heap.size=w.heap.size:=by omega
   have HRR:=I hr
   have HMM:=I hm
   clear hr hm hr1 hm1 hr2 hm2 hr3 hm3 hb4 HX hl1
   simp only[aZ,aM]
   go_wp21
   go_wp21
   go_wp21
   exact aK (N:=w.heap.size) rfl rfl (aI hN (aM n)) (.inl ⟨(aM n),(i+k),hE.o,rfl,HRR.o.tok (by omega) (by omega) _ _ _ _ _ _ _ _,Mv.tok (((Mv.refl b w).alloc _).trans HMM.o) (U _) _ _ _ _ _ _ _ _⟩)
 have hq65:(p==65)=false:=by simpa using hp65
 have hq122:(p==122)=false:=by simpa using hp122
 have hq98:(p==98)=false:=by simpa using hp98
 have hq66:(p==66)=false:=by simpa using hp66
 have hq120:(p==120)=false:=by simpa using hp120
 have hq117:(p==117)=false:=by simpa using hp117
 have hq107:(p==107)=false:=by simpa using hp107
 by_cases hdg:49<=p/\p<=57
 ·have HR:Hid (cU l i p=.ok (jB l i (p - 48))):=by show _=_;rw[hE0.o];simp[hp65,hp122,hp98,hp66,hp120,hp117,hp107,hdg]
  obtain⟨hd1,hd2⟩:=hdg
  clear hE0 hp65 hp122 hp98 hp66 hp120 hp117 hp107
  go_enter func105,ntmps105
  go_wp2_with fail
  refine(cC _).mono ?_
  rintro e w1 ⟨rfl,hmap,hb1⟩
  have hl1:=dB hmap p
  have hr1:=HR0.o.ar hb1
  have hm1:Mv b (w.alloc (aq {})) w1:=Mv.ae hb1
  have hlt1:=hr1.lt
  have hxw1:=hr1.xw
  have hz1:w.heap.size+1<=w1.heap.size:=by have:=hm1.size;simpa using this
  clear hmap hb1
  simp only[hcl,gz,Option.isSome_none,World.size_alloc]at hl1
  clear HR0 hcl
  have hr2:=hr1.alloc (.cells #[.string ⟨#[]⟩,.bool false] 146)
  have hm2:=hm1.alloc (.cells #[.string ⟨#[]⟩,.bool false] 146)
  go_wp2_with fail
  refine(oM (p - 48) _ hr2 (by omega) (by omega)).mono ?_
  rintro e w3 (⟨t,k,hR,rfl,hr,hm9⟩|⟨z,hR,rfl,hm9⟩)
  ·have hE:=I (HR.o.trans hR)
   have hm:=hm2.trans hm9
   have hN:w3.heap[w.heap.size]? =some (aq {}):=hm.aC (aj _ _) (by omega)
   obtain⟨m0,m1,m2,m3,m4,m5,m6,m7⟩:=ai hN
   have fr0:=au hN
   have hq0:w.heap.size<w3.heap.size:=lt_of_block hN
   have hq1:¬w.heap.size=w3.heap.size:=by omega
   have hq2:¬w3.heap.size=w.heap.size:=by omega
   have HRR:=I hr
   have HMM:=I hm
   clear hr hm hm9 hR HR hr1 hm1 hr2 hm2 hl1
   simp only[aZ]
   go_wp21
   go_wp21
   exact aK (N:=w.heap.size) rfl rfl (aI hN t) (.inl ⟨t,k,hE.o,rfl,HRR.o.tok (by omega) (by omega) _ _ _ _ _ _ _ _,Mv.tok (((Mv.refl b w).alloc _).trans HMM.o) (U _) _ _ _ _ _ _ _ _⟩)
  ·have hE:=I (HR.o.trans hR)
   have hm:=hm2.trans hm9
   have HMM:=I hm
   clear hm hm9 hR HR hr1 hm1 hr2 hm2 hl1
   simp only[bK]
   go_wp2
   exact⟨rfl,.inr ⟨z,hE.o,rfl,((Mv.refl b w).alloc _).trans HMM.o⟩⟩
 ·have HR:Hid (cU l i p=(match iA p with| .ok q=>.ok (aM q,i)| .error e=>.error e)):=by show _=_;rw[hE0.o,if_neg hp65,if_neg hp122,if_neg hp98,if_neg hp66,if_neg hp120,if_neg hp117,if_neg hp107,if_neg hdg]
  have hCT:=I (xm p)
  have hnd:¬(49<=p/\p<=57):=hdg
  clear hE0 hp65 hp122 hp98 hp66 hp120 hp117 hp107
  by_cases h49:49<=p
  ·have h57:¬p<=57:=by omega
   clear hdg hnd
   go_enter func105,ntmps105
   go_wp2_with fail
   refine(cC _).mono ?_
   rintro e w1 ⟨rfl,hmap,hb1⟩
   have hl1:=dB hmap p
   have hr1:=HR0.o.ar hb1
   have hm1:Mv b (w.alloc (aq {})) w1:=Mv.ae hb1
   have hlt1:=hr1.lt
   have hxw1:=hr1.xw
   have hz1:w.heap.size+1<=w1.heap.size:=by have:=hm1.size;simpa using this
   clear hmap hb1
   simp only[hcl,gz,Option.isSome_none,World.size_alloc]at hl1
   clear HR0 hcl
   have hr2:=hr1.alloc (.cells #[.string ⟨#[]⟩,.bool false] 146)
   have hm2:=hm1.alloc (.cells #[.string ⟨#[]⟩,.bool false] 146)
   go_wp2_with fail
   refine(hCT.o _).mono ?_
   rintro e w3 (⟨q,hq,rfl,rfl⟩|⟨hq,rfl,rfl⟩)
   ·have hE:Hid (cU l i p=.ok (aM q,i)):=by show _=_;rw[HR.o,hq]
    go_wp2_with fail
    refine(dM q _).mono ?_
    rintro e w4 ⟨rfl,hb4⟩
    have hr:=hr2.ar hb4
    have hm:=hm2.trans (Mv.ae hb4)
    have hN:w4.heap[w.heap.size]? =some (aq {}):=hm.aC (aj _ _) (by omega)
    obtain⟨m0,m1,m2,m3,m4,m5,m6,m7⟩:=ai hN
    have fr0:=au hN
    have hq0:w.heap.size<w4.heap.size:=lt_of_block hN
    have hq1:¬w.heap.size=w4.heap.size:=by omega
    have hq2:¬w4.heap.size=w.heap.size:=by omega
    have HRR:=I hr
    have HMM:=I hm
    clear hr hm hr1 hm1 hr2 hm2 hb4 hl1 hq HR
    simp only[aZ,aM]
    go_wp21
    go_wp21
    go_wp21
    exact aK (N:=w.heap.size) rfl rfl (aI hN (aM q)) (.inl ⟨(aM q),i,hE.o,rfl,HRR.o.tok (by omega) (by omega) _ _ _ _ _ _ _ _,Mv.tok (((Mv.refl b w).alloc _).trans HMM.o) (U _) _ _ _ _ _ _ _ _⟩)
   ·have hE:Hid (cU l i p=.error 1):=by show _=_;rw[HR.o,hq]
    have hm:=hm2
    have HMM:=I hm
    clear hm hr1 hm1 hr2 hm2 hl1 hq HR
    simp only[bK]
    go_wp2
    exact⟨rfl,.inr ⟨1,hE.o,rfl,((Mv.refl b w).alloc _).trans HMM.o⟩⟩
  ·clear hdg hnd
   go_enter func105,ntmps105
   go_wp2_with fail
   refine(cC _).mono ?_
   rintro e w1 ⟨rfl,hmap,hb1⟩
   have hl1:=dB hmap p
   have hr1:=HR0.o.ar hb1
   have hm1:Mv b (w.alloc (aq {})) w1:=Mv.ae hb1
   have hlt1:=hr1.lt
   have hxw1:=hr1.xw
   have hz1:w.heap.size+1<=w1.heap.size:=by have:=hm1.size;simpa using this
   clear hmap hb1
   simp only[hcl,gz,Option.isSome_none,World.size_alloc]at hl1
   clear HR0 hcl
   have hr2:=hr1.alloc (.cells #[.string ⟨#[]⟩,.bool false] 146)
   have hm2:=hm1.alloc (.cells #[.string ⟨#[]⟩,.bool false] 146)
   go_wp2_with fail
   refine(hCT.o _).mono ?_
   rintro e w3 (⟨q,hq,rfl,rfl⟩|⟨hq,rfl,rfl⟩)
   ·have hE:Hid (cU l i p=.ok (aM q,i)):=by show _=_;rw[HR.o,hq]
    go_wp2_with fail
    refine(dM q _).mono ?_
    rintro e w4 ⟨rfl,hb4⟩
    have hr:=hr2.ar hb4
    have hm:=hm2.trans (Mv.ae hb4)
    have hN:w4.heap[w.heap.size]? =some (aq {}):=hm.aC (aj _ _) (by omega)
    obtain⟨m0,m1,m2,m3,m4,m5,m6,m7⟩:=ai hN
    have fr0:=au hN
    have hq0:w.heap.size<w4.heap.size:=lt_of_block hN
    have hq1:¬w.heap.size=w4.heap.size:=by omega
    have hq2:¬w4.heap.size=w.heap.size:=by omega
    have HRR:=I hr
    have HMM:=I hm
    clear hr hm hr1 hm1 hr2 hm2 hb4 hl1 hq HR
    simp only[aZ,aM]
    go_wp21
    go_wp21
    go_wp21
    exact aK (N:=w.heap.size) rfl rfl (aI hN (aM q)) (.inl ⟨(aM q),i,hE.o,rfl,HRR.o.tok (by omega) (by omega) _ _ _ _ _ _ _ _,Mv.tok (((Mv.refl b w).alloc _).trans HMM.o) (U _) _ _ _ _ _ _ _ _⟩)
   ·have hE:Hid (cU l i p=.error 1):=by show _=_;rw[HR.o,hq]
    have hm:=hm2
    have HMM:=I hm
    clear hm hr1 hm1 hr2 hm2 hl1 hq HR
    simp only[bK]
    go_wp2
    exact⟨rfl,.inr ⟨1,hE.o,rfl,((Mv.refl b w).alloc _).trans HMM.o⟩⟩
theorem DJ{b:Nat}{x:Addr}{c:Nat}{l:List Int}{i:Nat}{d:Int}(p:Int)(w:World)(h:RB w b x c l i d):Calls prog 105 #[.pointer (some ⟨b,0,none⟩),.int .i64 p] w fun e w'=>mV b x c l d w (cU l i p) e w':=by
 cases hcl:jc p with
 |none=>exact FL p w h hcl
 |some c9=>exact Ea p c9 w h hcl
theorem B5{b:Nat}{x:Addr}{c:Nat}{l:List Int}{i:Nat}{d:Int}(p:Int)(w:World)(h:RB w b x c l i d)(hd3:d=3):Calls prog 106 #[.pointer (some ⟨b,0,none⟩),.int .i64 p] w fun e w'=>mV b x c l d w (bP l i p) e w':=by
 have hlt:=h.lt
 have hxw:=h.xw
 have hat:=h.at'
 have hw0:=h.alloc (aq {})
 have HR0:=I hw0
 have hm0:=(Mv.refl b (w.alloc (aq {})))
 subst hd3
 by_cases hp40:p=40
 ·subst hp40
  have HR:Hid (bP l i 40=dG 3 l 40 i):=by show _=_;unfold bP;simp
  have HC:=I (gp 40 _ hw0)
  clear h hw0 hm0 HR0
  go_enter func106,ntmps106
  go_wp2_with fail
  simp only[aq]at HC
  refine HC.o.mono ?_
  rintro e w1 (⟨t,k,hR,rfl,hr,hm⟩|⟨z,hR,rfl,hm⟩)
  ·have hE:=I (HR.o.trans hR)
   have hN:w1.heap[w.heap.size]? =some (aq {}):=hm.aC (aj _ _) (by omega)
   obtain⟨m0,m1,m2,m3,m4,m5,m6,m7⟩:=ai hN
   have fr0:=au hN
   have hq0:w.heap.size<w1.heap.size:=lt_of_block hN
   have hq1:¬w.heap.size=w1.heap.size:=by omega
   have hq2:¬w1.heap.size=w.heap.size:=by omega
   have HRR:=I hr
   have HMM:=I hm
   clear hr hm hR HR HC
   simp only[aZ]
   go_wp21
   go_wp21
   exact aK (N:=w.heap.size) rfl rfl (aI hN t) (.inl ⟨t,k,hE.o,rfl,HRR.o.tok (by omega) (by omega) _ _ _ _ _ _ _ _,Mv.tok (((Mv.refl b w).alloc _).trans HMM.o) (U _) _ _ _ _ _ _ _ _⟩)
  ·have hE:=I (HR.o.trans hR)
   have HMM:=I hm
   clear hm hR HR HC
   simp only[bK]
   go_wp2
   exact⟨rfl,.inr ⟨z,hE.o,rfl,((Mv.refl b w).alloc _).trans HMM.o⟩⟩
 by_cases hp41:p=41
 ·subst hp41
  have HR:Hid (bP l i 41=dG 3 l 41 i):=by show _=_;unfold bP;simp
  have HC:=I (gp 41 _ hw0)
  clear h hw0 hm0 HR0
  go_enter func106,ntmps106
  go_wp2_with fail
  simp only[aq]at HC
  refine HC.o.mono ?_
  rintro e w1 (⟨t,k,hR,rfl,hr,hm⟩|⟨z,hR,rfl,hm⟩)
  ·have hE:=I (HR.o.trans hR)
   have hN:w1.heap[w.heap.size]? =some (aq {}):=hm.aC (aj _ _) (by omega)
   obtain⟨m0,m1,m2,m3,m4,m5,m6,m7⟩:=ai hN
   have fr0:=au hN
   have hq0:w.heap.size<w1.heap.size:=lt_of_block hN
   have hq1:¬w.heap.size=w1.heap.size:=by omega
   have hq2:¬w1.heap.size=w.heap.size:=by omega
   have HRR:=I hr
   have HMM:=I hm
   clear hr hm hR HR HC
   simp only[aZ]
   go_wp21
   go_wp21
   exact aK (N:=w.heap.size) rfl rfl (aI hN t) (.inl ⟨t,k,hE.o,rfl,HRR.o.tok (by omega) (by omega) _ _ _ _ _ _ _ _,Mv.tok (((Mv.refl b w).alloc _).trans HMM.o) (U _) _ _ _ _ _ _ _ _⟩)
  ·have hE:=I (HR.o.trans hR)
   have HMM:=I hm
   clear hm hR HR HC
   simp only[bK]
   go_wp2
   exact⟨rfl,.inr ⟨z,hE.o,rfl,((Mv.refl b w).alloc _).trans HMM.o⟩⟩
 by_cases hp124:p=124
 ·subst hp124
  have HR:Hid (bP l i 124=dG 3 l 124 i):=by show _=_;unfold bP;simp
  have HC:=I (gp 124 _ hw0)
  clear h hw0 hm0 HR0
  go_enter func106,ntmps106
  go_wp2_with fail
  simp only[aq]at HC
  refine HC.o.mono ?_
  rintro e w1 (⟨t,k,hR,rfl,hr,hm⟩|⟨z,hR,rfl,hm⟩)
  ·have hE:=I (HR.o.trans hR)
   have hN:w1.heap[w.heap.size]? =some (aq {}):=hm.aC (aj _ _) (by omega)
   obtain⟨m0,m1,m2,m3,m4,m5,m6,m7⟩:=ai hN
   have fr0:=au hN
   have hq0:w.heap.size<w1.heap.size:=lt_of_block hN
   have hq1:¬w.heap.size=w1.heap.size:=by omega
   have hq2:¬w1.heap.size=w.heap.size:=by omega
   have HRR:=I hr
   have HMM:=I hm
   clear hr hm hR HR HC
   simp only[aZ]
   go_wp21
   go_wp21
   exact aK (N:=w.heap.size) rfl rfl (aI hN t) (.inl ⟨t,k,hE.o,rfl,HRR.o.tok (by omega) (by omega) _ _ _ _ _ _ _ _,Mv.tok (((Mv.refl b w).alloc _).trans HMM.o) (U _) _ _ _ _ _ _ _ _⟩)
  ·have hE:=I (HR.o.trans hR)
   have HMM:=I hm
   clear hm hR HR HC
   simp only[bK]
   go_wp2
   exact⟨rfl,.inr ⟨z,hE.o,rfl,((Mv.refl b w).alloc _).trans HMM.o⟩⟩
 by_cases hp123:p=123
 ·subst hp123
  have HR:Hid (bP l i 123=dG 3 l 123 i):=by show _=_;unfold bP;simp
  have HC:=I (gp 123 _ hw0)
  clear h hw0 hm0 HR0
  go_enter func106,ntmps106
  go_wp2_with fail
  simp only[aq]at HC
  refine HC.o.mono ?_
  rintro e w1 (⟨t,k,hR,rfl,hr,hm⟩|⟨z,hR,rfl,hm⟩)
  ·have hE:=I (HR.o.trans hR)
   have hN:w1.heap[w.heap.size]? =some (aq {}):=hm.aC (aj _ _) (by omega)
   obtain⟨m0,m1,m2,m3,m4,m5,m6,m7⟩:=ai hN
   have fr0:=au hN
   have hq0:w.heap.size<w1.heap.size:=lt_of_block hN
   have hq1:¬w.heap.size=w1.heap.size:=by omega
   have hq2:¬w1.heap.size=w.heap.size:=by omega
   have HRR:=I hr
   have HMM:=I hm
   clear hr hm hR HR HC
   simp only[aZ]
   go_wp21
   go_wp21
   exact aK (N:=w.heap.size) rfl rfl (aI hN t) (.inl ⟨t,k,hE.o,rfl,HRR.o.tok (by omega) (by omega) _ _ _ _ _ _ _ _,Mv.tok (((Mv.refl b w).alloc _).trans HMM.o) (U _) _ _ _ _ _ _ _ _⟩)
  ·have hE:=I (HR.o.trans hR)
   have HMM:=I hm
   clear hm hR HR HC
   simp only[bK]
   go_wp2
   exact⟨rfl,.inr ⟨z,hE.o,rfl,((Mv.refl b w).alloc _).trans HMM.o⟩⟩
 by_cases hp119:p=119
 ·subst hp119
  have hE:Hid (bP l i 119=.ok (dS (dK,false),i)):=by show _=_;unfold bP;simp
  clear h hw0
  go_enter func106,ntmps106
  go_wp2_with fail
  refine(cC _).mono ?_
  rintro e w1 ⟨rfl,hmap,hb1⟩
  have hl1:=DQ hmap 119 false (by simp)
  have hr1:=HR0.o.ar hb1
  have hm1:Mv b (w.alloc (aq {})) w1:=Mv.ae hb1
  have hlt1:=hr1.lt
  have hxw1:=hr1.xw
  clear hmap hb1
  simp only[gz,World.size_alloc]at hl1
  go_wp2_with fail
  refine(jK dK false _).mono ?_
  rintro e w3 ⟨rfl,hb3⟩
  have hr:=hr1.ar hb3
  have hm:=hm1.trans (Mv.ae hb3)
  have hN:w3.heap[w.heap.size]? =some (aq {}):=hm.aC (aj _ _) (by omega)
  obtain⟨m0,m1,m2,m3,m4,m5,m6,m7⟩:=ai hN
  have fr0:=au hN
  have hq0:w.heap.size<w3.heap.size:=lt_of_block hN
  have hq1:¬w.heap.size=w3.heap.size:=by omega
  have hq2:¬w3.heap.size=w.heap.size:=by omega
  have HRR:=I hr
  have HMM:=I hm
  clear hr hm hr1 hm1 hb3 hl1 HR0 hm0
  simp only[aZ,dS]
  go_wp21
  go_wp21
  go_wp21
  exact aK (N:=w.heap.size) rfl rfl (aI hN (dS (dK,false))) (.inl ⟨(dS (dK,false)),i,hE.o,rfl,HRR.o.tok (by omega) (by omega) _ _ _ _ _ _ _ _,Mv.tok (((Mv.refl b w).alloc _).trans HMM.o) (U _) _ _ _ _ _ _ _ _⟩)
 by_cases hp87:p=87
 ·subst hp87
  have hE:Hid (bP l i 87=.ok (dS (dK,true),i)):=by show _=_;unfold bP;simp
  clear h hw0
  go_enter func106,ntmps106
  go_wp2_with fail
  refine(cC _).mono ?_
  rintro e w1 ⟨rfl,hmap,hb1⟩
  have hl1:=DQ hmap 87 true (by simp)
  have hr1:=HR0.o.ar hb1
  have hm1:Mv b (w.alloc (aq {})) w1:=Mv.ae hb1
  have hlt1:=hr1.lt
  have hxw1:=hr1.xw
  clear hmap hb1
  simp only[gz,World.size_alloc]at hl1
  go_wp2_with fail
  refine(jK dK true _).mono ?_
  rintro e w3 ⟨rfl,hb3⟩
  have hr:=hr1.ar hb3
  have hm:=hm1.trans (Mv.ae hb3)
  have hN:w3.heap[w.heap.size]? =some (aq {}):=hm.aC (aj _ _) (by omega)
  obtain⟨m0,m1,m2,m3,m4,m5,m6,m7⟩:=ai hN
  have fr0:=au hN
  have hq0:w.heap.size<w3.heap.size:=lt_of_block hN
  have hq1:¬w.heap.size=w3.heap.size:=by omega
  have hq2:¬w3.heap.size=w.heap.size:=by omega
  have HRR:=I hr
  have HMM:=I hm
  clear hr hm hr1 hm1 hb3 hl1 HR0 hm0
  simp only[aZ,dS]
  go_wp21
  go_wp21
  go_wp21
  exact aK (N:=w.heap.size) rfl rfl (aI hN (dS (dK,true))) (.inl ⟨(dS (dK,true)),i,hE.o,rfl,HRR.o.tok (by omega) (by omega) _ _ _ _ _ _ _ _,Mv.tok (((Mv.refl b w).alloc _).trans HMM.o) (U _) _ _ _ _ _ _ _ _⟩)
 by_cases hp98:p=98
 ·subst hp98
  have hE:Hid (bP l i 98=.ok (bn 7,i)):=by show _=_;unfold bP;simp
  clear h hw0
  go_enter func106,ntmps106
  go_wp2_with fail
  refine(eP 7 _).mono ?_
  rintro e w2 ⟨rfl,hb2⟩
  have hr:=HR0.o.ar hb2
  have hm:=hm0.trans (Mv.ae hb2)
  have hN:w2.heap[w.heap.size]? =some (aq {}):=hm.aC (aj _ _) (by omega)
  obtain⟨m0,m1,m2,m3,m4,m5,m6,m7⟩:=ai hN
  have fr0:=au hN
  have hq0:w.heap.size<w2.heap.size:=lt_of_block hN
  have hq1:¬w.heap.size=w2.heap.size:=by omega
  have hq2:¬w2.heap.size=w.heap.size:=by omega
  have HRR:=I hr
  have HMM:=I hm
  clear hr hm HR0 hm0 hb2
  simp only[aZ,bn]
  go_wp21
  go_wp21
  exact aK (N:=w.heap.size) rfl rfl (aI hN (bn 7)) (.inl ⟨(bn 7),i,hE.o,rfl,HRR.o.tok (by omega) (by omega) _ _ _ _ _ _ _ _,Mv.tok (((Mv.refl b w).alloc _).trans HMM.o) (U _) _ _ _ _ _ _ _ _⟩)
 by_cases hp66:p=66
 ·subst hp66
  have hE:Hid (bP l i 66=.ok (bn 8,i)):=by show _=_;unfold bP;simp
  clear h hw0
  go_enter func106,ntmps106
  go_wp2_with fail
  refine(eP 8 _).mono ?_
  rintro e w2 ⟨rfl,hb2⟩
  have hr:=HR0.o.ar hb2
  have hm:=hm0.trans (Mv.ae hb2)
  have hN:w2.heap[w.heap.size]? =some (aq {}):=hm.aC (aj _ _) (by omega)
  obtain⟨m0,m1,m2,m3,m4,m5,m6,m7⟩:=ai hN
  have fr0:=au hN
  have hq0:w.heap.size<w2.heap.size:=lt_of_block hN
  have hq1:¬w.heap.size=w2.heap.size:=by omega
  have hq2:¬w2.heap.size=w.heap.size:=by omega
  have HRR:=I hr
  have HMM:=I hm
  clear hr hm HR0 hm0 hb2
  simp only[aZ,bn]
  go_wp21
  go_wp21
  exact aK (N:=w.heap.size) rfl rfl (aI hN (bn 8)) (.inl ⟨(bn 8),i,hE.o,rfl,HRR.o.tok (by omega) (by omega) _ _ _ _ _ _ _ _,Mv.tok (((Mv.refl b w).alloc _).trans HMM.o) (U _) _ _ _ _ _ _ _ _⟩)
 by_cases hp96:p=96
 ·subst hp96
  have hE:Hid (bP l i 96=.ok (bn 5,i)):=by show _=_;unfold bP;simp
  clear h hw0
  go_enter func106,ntmps106
  go_wp2_with fail
  refine(eP 5 _).mono ?_
  rintro e w2 ⟨rfl,hb2⟩
  have hr:=HR0.o.ar hb2
  have hm:=hm0.trans (Mv.ae hb2)
  have hN:w2.heap[w.heap.size]? =some (aq {}):=hm.aC (aj _ _) (by omega)
  obtain⟨m0,m1,m2,m3,m4,m5,m6,m7⟩:=ai hN
  have fr0:=au hN
  have hq0:w.heap.size<w2.heap.size:=lt_of_block hN
  have hq1:¬w.heap.size=w2.heap.size:=by omega
  have hq2:¬w2.heap.size=w.heap.size:=by omega
  have HRR:=I hr
  have HMM:=I hm
  clear hr hm HR0 hm0 hb2
  simp only[aZ,bn]
  go_wp21
  go_wp21
  exact aK (N:=w.heap.size) rfl rfl (aI hN (bn 5)) (.inl ⟨(bn 5),i,hE.o,rfl,HRR.o.tok (by omega) (by omega) _ _ _ _ _ _ _ _,Mv.tok (((Mv.refl b w).alloc _).trans HMM.o) (U _) _ _ _ _ _ _ _ _⟩)
 by_cases hp39:p=39
 ·subst hp39
  have hE:Hid (bP l i 39=.ok (bn 6,i)):=by show _=_;unfold bP;simp
  clear h hw0
  go_enter func106,ntmps106
  go_wp2_with fail
  refine(eP 6 _).mono ?_
  rintro e w2 ⟨rfl,hb2⟩
  have hr:=HR0.o.ar hb2
  have hm:=hm0.trans (Mv.ae hb2)
  have hN:w2.heap[w.heap.size]? =some (aq {}):=hm.aC (aj _ _) (by omega)
  obtain⟨m0,m1,m2,m3,m4,m5,m6,m7⟩:=ai hN
  have fr0:=au hN
  have hq0:w.heap.size<w2.heap.size:=lt_of_block hN
  have hq1:¬w.heap.size=w2.heap.size:=by omega
  have hq2:¬w2.heap.size=w.heap.size:=by omega
  have HRR:=I hr
  have HMM:=I hm
  clear hr hm HR0 hm0 hb2
  simp only[aZ,bn]
  go_wp21
  go_wp21
  exact aK (N:=w.heap.size) rfl rfl (aI hN (bn 6)) (.inl ⟨(bn 6),i,hE.o,rfl,HRR.o.tok (by omega) (by omega) _ _ _ _ _ _ _ _,Mv.tok (((Mv.refl b w).alloc _).trans HMM.o) (U _) _ _ _ _ _ _ _ _⟩)
 have hq40:(p==40)=false:=by simpa using hp40
 have hq41:(p==41)=false:=by simpa using hp41
 have hq124:(p==124)=false:=by simpa using hp124
 have hq123:(p==123)=false:=by simpa using hp123
 have hq119:(p==119)=false:=by simpa using hp119
 have hq87:(p==87)=false:=by simpa using hp87
 have hq98:(p==98)=false:=by simpa using hp98
 have hq66:(p==66)=false:=by simpa using hp66
 have hq96:(p==96)=false:=by simpa using hp96
 have hq39:(p==39)=false:=by simpa using hp39
 by_cases hdg:49<=p/\p<=57
 ·have hE:Hid (bP l i p=.ok (aP (p - 48),i)):=by show _=_;unfold bP;simp[hp40,hp41,hp124,hp123,hp119,hp87,hp98,hp66,hp96,hp39,hdg]
  obtain⟨hd1,hd2⟩:=hdg
  clear hp40 hp41 hp124 hp123 hp119 hp87 hp98 hp66 hp96 hp39 h hw0
  go_enter func106,ntmps106
  go_wp2_with fail
  refine(eH (p - 48) _).mono ?_
  rintro e w2 ⟨rfl,hb2⟩
  have hr:=HR0.o.ar hb2
  have hm:=hm0.trans (Mv.ae hb2)
  have hN:w2.heap[w.heap.size]? =some (aq {}):=hm.aC (aj _ _) (by omega)
  obtain⟨m0,m1,m2,m3,m4,m5,m6,m7⟩:=ai hN
  have fr0:=au hN
  have hq0:w.heap.size<w2.heap.size:=lt_of_block hN
  have hq1:¬w.heap.size=w2.heap.size:=by omega
  have hq2:¬w2.heap.size=w.heap.size:=by omega
  have HRR:=I hr
  have HMM:=I hm
  clear hr hm HR0 hm0 hb2
  simp only[aZ,aP]
  go_wp21
  go_wp21
  exact aK (N:=w.heap.size) rfl rfl (aI hN (aP (p - 48))) (.inl ⟨(aP (p - 48)),i,hE.o,rfl,HRR.o.tok (by omega) (by omega) _ _ _ _ _ _ _ _,Mv.tok (((Mv.refl b w).alloc _).trans HMM.o) (U _) _ _ _ _ _ _ _ _⟩)
 ·have hE:Hid (bP l i p=.ok (aM p,i)):=by show _=_;unfold bP;simp[hp40,hp41,hp124,hp123,hp119,hp87,hp98,hp66,hp96,hp39];intro h1 h2;exact absurd ⟨h1,h2⟩ hdg
  clear hp40 hp41 hp124 hp123 hp119 hp87 hp98 hp66 hp96 hp39 h hw0
  by_cases h49:49<=p
  ·have h57:¬p<=57:=by omega
   clear hdg
   go_enter func106,ntmps106
   go_wp2_with fail
   refine(dM p _).mono ?_
   rintro e w2 ⟨rfl,hb2⟩
   have hr:=HR0.o.ar hb2
   have hm:=hm0.trans (Mv.ae hb2)
   have hN:w2.heap[w.heap.size]? =some (aq {}):=hm.aC (aj _ _) (by omega)
   obtain⟨m0,m1,m2,m3,m4,m5,m6,m7⟩:=ai hN
   have fr0:=au hN
   have hq0:w.heap.size<w2.heap.size:=lt_of_block hN
   have hq1:¬w.heap.size=w2.heap.size:=by omega
   have hq2:¬w2.heap.size=w.heap.size:=by omega
   have HRR:=I hr
   have HMM:=I hm
   clear hr hm HR0 hm0 hb2
   simp only[aZ,aM]
   go_wp21
   go_wp21
   exact aK (N:=w.heap.size) rfl rfl (aI hN (aM p)) (.inl ⟨(aM p),i,hE.o,rfl,HRR.o.tok (by omega) (by omega) _ _ _ _ _ _ _ _,Mv.tok (((Mv.refl b w).alloc _).trans HMM.o) (U _) _ _ _ _ _ _ _ _⟩)
  ·clear hdg
   go_enter func106,ntmps106
   go_wp2_with fail
   refine(dM p _).mono ?_
   rintro e w2 ⟨rfl,hb2⟩
   have hr:=HR0.o.ar hb2
   have hm:=hm0.trans (Mv.ae hb2)
   have hN:w2.heap[w.heap.size]? =some (aq {}):=hm.aC (aj _ _) (by omega)
   obtain⟨m0,m1,m2,m3,m4,m5,m6,m7⟩:=ai hN
   have fr0:=au hN
   have hq0:w.heap.size<w2.heap.size:=lt_of_block hN
   have hq1:¬w.heap.size=w2.heap.size:=by omega
   have hq2:¬w2.heap.size=w.heap.size:=by omega
   have HRR:=I hr
   have HMM:=I hm
   clear hr hm HR0 hm0 hb2
   simp only[aZ,aM]
   go_wp21
   go_wp21
   exact aK (N:=w.heap.size) rfl rfl (aI hN (aM p)) (.inl ⟨(aM p),i,hE.o,rfl,HRR.o.tok (by omega) (by omega) _ _ _ _ _ _ _ _,Mv.tok (((Mv.refl b w).alloc _).trans HMM.o) (U _) _ _ _ _ _ _ _ _⟩)
theorem yt{b:Nat}{x:Addr}{c:Nat}{l:List Int}{i:Nat}{d:Int}(w:World)(h:RB w b x c l i d):Calls prog 92 #[.pointer (some ⟨b,0,none⟩)] w fun e w'=>mV b x c l d w (jy d l i) e w':=by
 have hlt:=h.lt
 have hxw:=h.xw
 have hat:=h.at'
 have hw0:=h.alloc (aq {})
 by_cases hi:i<l.length
 ·have HT:=I (qP _ hw0 hi)
  have hE0:Hid (jy d l i=(if d=1 then cU l (i+1) l[i]else if d=3 then bP l (i+1) l[i]else .ok (aM l[i],i+1))):=by show _=_;unfold jy;rw[List.getElem?_eq_getElem hi]
  obtain⟨p,hp⟩:∃p,p=l[i]:=⟨_,rfl⟩
  rw[<- hp]at HT hE0
  clear h hw0 hp
  by_cases hd1:d=1
  ·subst hd1
   have HR:Hid (jy 1 l i=cU l (i+1) p):=by show _=_;rw[hE0.o,if_pos rfl]
   clear hE0
   go_enter func92,ntmps92
   go_wp2_with fail
   simp only[aq]at HT
   refine HT.o.mono ?_
   rintro e w1 ⟨rfl,hr1,hm1⟩
   obtain⟨c0,c1,c2,f1⟩:=hr1.cells
   go_wp2_with fail
   refine(DJ p w1 hr1).mono ?_
   rintro e w3 (⟨t,k,hR,rfl,hr,hm9⟩|⟨z,hR,rfl,hm9⟩)
   ·have hE:=I (HR.o.trans hR)
    have hm:=hm1.trans hm9
    have hN:w3.heap[w.heap.size]? =some (aq {}):=hm.aC (aj _ _) (by omega)
    obtain⟨m0,m1,m2,m3,m4,m5,m6,m7⟩:=ai hN
    have fr0:=au hN
    have hq0:w.heap.size<w3.heap.size:=lt_of_block hN
    have hq1:¬w.heap.size=w3.heap.size:=by omega
    have hq2:¬w3.heap.size=w.heap.size:=by omega
    have HRR:=I hr
    have HMM:=I hm
    clear hr hm hm9 hR HR hr1 hm1 HT c0 c1 c2 f1
    simp only[aZ]
    go_wp21
    go_wp21
    exact aK (N:=w.heap.size) rfl rfl (aI hN t) (.inl ⟨t,k,hE.o,rfl,HRR.o.tok (by omega) (by omega) _ _ _ _ _ _ _ _,Mv.tok (((Mv.refl b w).alloc _).trans HMM.o) (U _) _ _ _ _ _ _ _ _⟩)
   ·have hE:=I (HR.o.trans hR)
    have hm:=hm1.trans hm9
    have HMM:=I hm
    clear hm hm9 hR HR hr1 hm1 HT c0 c1 c2 f1
    simp only[bK]
    go_wp2
    exact⟨rfl,.inr ⟨z,hE.o,rfl,((Mv.refl b w).alloc _).trans HMM.o⟩⟩
  ·by_cases hd3:d=3
   ·subst hd3
    have HR:Hid (jy 3 l i=bP l (i+1) p):=by show _=_;rw[hE0.o,if_neg (by omega),if_pos rfl]
    clear hE0
    go_enter func92,ntmps92
    go_wp2_with fail
    simp only[aq]at HT
    refine HT.o.mono ?_
    rintro e w1 ⟨rfl,hr1,hm1⟩
    obtain⟨c0,c1,c2,f1⟩:=hr1.cells
    go_wp2_with fail
    refine(B5 p w1 hr1 rfl).mono ?_
    rintro e w3 (⟨t,k,hR,rfl,hr,hm9⟩|⟨z,hR,rfl,hm9⟩)
    ·have hE:=I (HR.o.trans hR)
     have hm:=hm1.trans hm9
     have hN:w3.heap[w.heap.size]? =some (aq {}):=hm.aC (aj _ _) (by omega)
     obtain⟨m0,m1,m2,m3,m4,m5,m6,m7⟩:=ai hN
     have fr0:=au hN
     have hq0:w.heap.size<w3.heap.size:=lt_of_block hN
     have hq1:¬w.heap.size=w3.heap.size:=by omega
     have hq2:¬w3.heap.size=w.heap.size:=by omega
     have HRR:=I hr
     have HMM:=I hm
     clear hr hm hm9 hR HR hr1 hm1 HT c0 c1 c2 f1
     simp only[aZ]
     go_wp21
     go_wp21
     exact aK (N:=w.heap.size) rfl rfl (aI hN t) (.inl ⟨t,k,hE.o,rfl,HRR.o.tok (by omega) (by omega) _ _ _ _ _ _ _ _,Mv.tok (((Mv.refl b w).alloc _).trans HMM.o) (U _) _ _ _ _ _ _ _ _⟩)
    ·have hE:=I (HR.o.trans hR)
     have hm:=hm1.trans hm9
     have HMM:=I hm
     clear hm hm9 hR HR hr1 hm1 HT c0 c1 c2 f1
     simp only[bK]
     go_wp2
     exact⟨rfl,.inr ⟨z,hE.o,rfl,((Mv.refl b w).alloc _).trans HMM.o⟩⟩
   ·have hE:Hid (jy d l i=.ok (aM p,i+1)):=by show _=_;rw[hE0.o,if_neg hd1,if_neg hd3]
    have hq1:(d==1)=false:=by simpa using hd1
    have hq3:(d==3)=false:=by simpa using hd3
    clear hE0 hd1 hd3
    go_enter func92,ntmps92
    go_wp2_with fail
    simp only[aq]at HT
    refine HT.o.mono ?_
    rintro e w1 ⟨rfl,hr1,hm1⟩
    obtain⟨c0,c1,c2,f1⟩:=hr1.cells
    go_wp2_with fail
    refine(dM p w1).mono ?_
    rintro e w2 ⟨rfl,hb2⟩
    have hr:=hr1.ar hb2
    have hm:=hm1.trans (Mv.ae hb2)
    have hN:w2.heap[w.heap.size]? =some (aq {}):=hm.aC (aj _ _) (by omega)
    obtain⟨m0,m1,m2,m3,m4,m5,m6,m7⟩:=ai hN
    have fr0:=au hN
    have hq0:w.heap.size<w2.heap.size:=lt_of_block hN
    have hq7:¬w.heap.size=w2.heap.size:=by omega
    have hq8:¬w2.heap.size=w.heap.size:=by omega
    have HRR:=I hr
    have HMM:=I hm
    clear hr hm hr1 hm1 hb2 HT c0 c1 c2 f1
    simp only[aZ,aM]
    go_wp21
    go_wp21
    go_wp21
    exact aK (N:=w.heap.size) rfl rfl (aI hN (aM p)) (.inl ⟨(aM p),(i+1),hE.o,rfl,HRR.o.tok (by omega) (by omega) _ _ _ _ _ _ _ _,Mv.tok (((Mv.refl b w).alloc _).trans HMM.o) (U _) _ _ _ _ _ _ _ _⟩)
 ·have HT:=I (zU _ hw0 hi)
  have hE:Hid (jy d l i=.error 1):=by show _=_;unfold jy;rw[List.getElem?_eq_none (by omega)]
  clear h hw0
  go_enter func92,ntmps92
  go_wp2_with fail
  simp only[aq]at HT
  refine HT.o.mono ?_
  rintro e w1 ⟨rfl,hm⟩
  have HMM:=I hm
  clear hm HT
  simp only[bK]
  go_wp2
  exact⟨rfl,.inr ⟨1,hE.o,rfl,((Mv.refl b w).alloc _).trans HMM.o⟩⟩
end Go.Proofs.YtklbbbldalmnbaaGreatDoor.TK
