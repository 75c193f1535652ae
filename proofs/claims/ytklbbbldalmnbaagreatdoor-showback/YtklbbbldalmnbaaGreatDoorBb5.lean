import Derived.Test.YtklbbbldalmnbaaGreatDoorKW
set_option maxHeartbeats 4000000
set_option linter.unusedVariables false
open Go.Proofs.Tryz
namespace Go.Proofs.YtklbbbldalmnbaaGreatDoor.Br
open Go.RowKit
open TK (Mv bJ bU bE)
variable {w w' : World} {b : Nat} {v : Value} {l : List Int} {i : Nat} {d : Int} {fo : Bool}
theorem dQ.oN{R:Except BE (PS×Nat)}{f:PS}{k:Nat}{sv:Value}{L:RL}(h1:R=.ok (f,k))(h2:OR w' w.heap.size sv L)(h3:bg f L)(h4:BB w' b v l k d fo)(h5:i<k)(h6:Mv b w w'):dQ R b v l i d fo w (.returned sv) w':=.inl ⟨f,k,sv,L,h1,rfl,h2,h3,h4,h5,h6⟩
theorem yT(h:BB w b v l i d fo)(hc:bZ l i=true)(hd:(d==1)=true)(h94:aX l (i+2) [94]=true)(hn:aH l (i+3)=[]):
  Calls prog 217 #[.pointer (some ⟨b,0,none⟩)] w fun e w'=>dQ (dT (par d fo) l i) b v l i d fo w e w':=by
 obtain⟨c0,c1,c2,c3,f1⟩:=h.cells
 have hE:=I (ic (d:=d) (fo:=fo) (l:=l) (i:=i) (no:=true) (j:=i+3) (n:=(aH l (i+3)).length) (by simp only[par];rw[hd,h94];rfl) rfl rfl (.inl hn))
 have HS1:=I (dt h 91 58 hc)
 obtain⟨n,hnn⟩:∃n,n=(aH l (i+3)).length:=⟨_,rfl⟩
 obtain⟨S,hS⟩:∃S,S=bE (aH l (i+3)):=⟨_,rfl⟩
 have HL:=I (fun w3 (hr3:BB w3 b v l (i+3) d fo)=>dC hr3)
 simp only[rp]at HL
 rw[<- hnn, <-hS]at HL
 rw[<- hnn]at hE
 have z1:S.toList=[]:=by rw[hS,hn,TK.dR];rfl
 have z2:S.toList.isEmpty=true:=by rw[z1];rfl
 clear hS hnn hn hc h c0 c2 c3 f1
 go_enter func217,ntmps217
 go_wp2_with fail
 refine HS1.o.mono ?_
 rintro e w1 ⟨rfl,hr1,hm1⟩
 have HM1:=I hm1
 have HR1:=I hr1
 clear hm1 hr1 HS1 c1
 go_wp2_with fail
 refine(dx HR1.o hd).mono ?_
 rintro e w1' ⟨rfl,rfl⟩
 go_wp2_with fail
 refine(jw HR1.o 94 h94).mono ?_
 rintro e w2 ⟨rfl,hr2,hm2⟩
 have HM2:=I (HM1.o.trans hm2)
 have HR2:=I hr2
 clear hm2 hr2 HM1 HR1 h94 hd
 go_wp2_with fail
 refine(HL.o _ HR2.o).mono ?_
 rintro e w3 ⟨rfl,hr3,hm3⟩
 have HM3:=I (HM2.o.trans hm3)
 have HR3:=I hr3
 obtain⟨c0,c1,c2,c3,f1⟩:=hr3.cells
 have HG:=I (aO 1 (((i+3+n:Nat):Int)) w3)
 simp only[aw]at HG
 clear hm3 hr3 HM2 HR2 HL c0 c2 c3 f1
 go_wp2_with fail
 refine HG.o.mono ?_
 rintro e w4 ⟨rfl,rfl⟩
 go_wp2
 exact⟨rfl,.inr ⟨1,_,hE.o,rfl,HM3.o⟩⟩
theorem xG(h:BB w b v l i d fo)(hc:bZ l i=true)(hd:(d==1)=true)(h94:aX l (i+2) [94]=true)(hn:¬aH l (i+3)=[])(h2:aX l (i+3+(aH l (i+3)).length) [58,93]=false):
  Calls prog 217 #[.pointer (some ⟨b,0,none⟩)] w fun e w'=>dQ (dT (par d fo) l i) b v l i d fo w e w':=by
 obtain⟨c0,c1,c2,c3,f1⟩:=h.cells
 have hE:=I (ic (d:=d) (fo:=fo) (l:=l) (i:=i) (no:=true) (j:=i+3) (n:=(aH l (i+3)).length) (by simp only[par];rw[hd,h94];rfl) rfl rfl (.inr h2))
 have HS1:=I (dt h 91 58 hc)
 obtain⟨n,hnn⟩:∃n,n=(aH l (i+3)).length:=⟨_,rfl⟩
 obtain⟨S,hS⟩:∃S,S=bE (aH l (i+3)):=⟨_,rfl⟩
 have HL:=I (fun w3 (hr3:BB w3 b v l (i+3) d fo)=>dC hr3)
 simp only[rp]at HL
 rw[<- hnn, <-hS]at HL
 rw[<- hnn]at hE
 rw[<- hnn]at h2
 have z1:¬S.toList=[]:=by rw[hS,TK.dR];simpa using hn
 have z2:S.toList.isEmpty=false:=fq.2 z1
 clear hS hnn hn hc h c0 c2 c3 f1
 go_enter func217,ntmps217
 go_wp2_with fail
 refine HS1.o.mono ?_
 rintro e w1 ⟨rfl,hr1,hm1⟩
 have HM1:=I hm1
 have HR1:=I hr1
 clear hm1 hr1 HS1 c1
 go_wp2_with fail
 refine(dx HR1.o hd).mono ?_
 rintro e w1' ⟨rfl,rfl⟩
 go_wp2_with fail
 refine(jw HR1.o 94 h94).mono ?_
 rintro e w2 ⟨rfl,hr2,hm2⟩
 have HM2:=I (HM1.o.trans hm2)
 have HR2:=I hr2
 clear hm2 hr2 HM1 HR1 h94 hd
 go_wp2_with fail
 refine(HL.o _ HR2.o).mono ?_
 rintro e w3 ⟨rfl,hr3,hm3⟩
 have HM3:=I (HM2.o.trans hm3)
 have HR3:=I hr3
 have H2:=I h2
 clear hm3 hr3 HM2 HR2 HL h2
 go_wp2_with fail
 refine(mE HR3.o 58 93 H2.o).mono ?_
 rintro e w4 ⟨rfl,hr4,hm4⟩
 have HM4:=I (HM3.o.trans hm4)
 obtain⟨c0,c1,c2,c3,f1⟩:=hr4.cells
 have HG:=I (aO 1 (((i+3+n:Nat):Int)) w4)
 simp only[aw]at HG
 clear hm4 hr4 HM3 HR3 c0 c2 c3 f1 H2
 go_wp2_with fail
 refine HG.o.mono ?_
 rintro e w5 ⟨rfl,rfl⟩
 go_wp2
 exact⟨rfl,.inr ⟨1,_,hE.o,rfl,HM4.o⟩⟩
theorem yO(h:BB w b v l i d fo)(hc:bZ l i=true)(hd:(d==1)=true)(h94:aX l (i+2) [94]=true)(hn:¬aH l (i+3)=[])(h2:aX l (i+3+(aH l (i+3)).length) [58,93]=true):
  Calls prog 217 #[.pointer (some ⟨b,0,none⟩)] w fun e w'=>dQ (dT (par d fo) l i) b v l i d fo w e w':=by
 obtain⟨c0,c1,c2,c3,f1⟩:=h.cells
 have hE:=I (pP (d:=d) (fo:=fo) (l:=l) (i:=i) (no:=true) (j:=i+3) (n:=(aH l (i+3)).length) (by simp only[par];rw[hd,h94];rfl) rfl rfl hn h2)
 have HS1:=I (dt h 91 58 hc)
 obtain⟨n,hnn⟩:∃n,n=(aH l (i+3)).length:=⟨_,rfl⟩
 obtain⟨S,hS⟩:∃S,S=bE (aH l (i+3)):=⟨_,rfl⟩
 have HL:=I (fun w3 (hr3:BB w3 b v l (i+3) d fo)=>dC hr3)
 simp only[rp]at HL
 rw[<- hnn, <-hS]at HL
 rw[<- hnn]at hE
 rw[<- hS]at hE
 rw[<- hnn]at h2
 have z1:¬S.toList=[]:=by rw[hS,TK.dR];simpa using hn
 have z2:S.toList.isEmpty=false:=fq.2 z1
 clear hS hnn hn hc h c0 c2 c3 f1
 go_enter func217,ntmps217
 go_wp2_with fail
 refine HS1.o.mono ?_
 rintro e w1 ⟨rfl,hr1,hm1⟩
 have HM1:=I hm1
 have HR1:=I hr1
 clear hm1 hr1 HS1 c1
 go_wp2_with fail
 refine(dx HR1.o hd).mono ?_
 rintro e w1' ⟨rfl,rfl⟩
 go_wp2_with fail
 refine(jw HR1.o 94 h94).mono ?_
 rintro e w2 ⟨rfl,hr2,hm2⟩
 have HM2:=I (HM1.o.trans hm2)
 have HR2:=I hr2
 clear hm2 hr2 HM1 HR1 h94 hd
 go_wp2_with fail
 refine(HL.o _ HR2.o).mono ?_
 rintro e w3 ⟨rfl,hr3,hm3⟩
 have HM3:=I (HM2.o.trans hm3)
 have HR3:=I hr3
 have H2:=I h2
 clear hm3 hr3 HM2 HR2 HL h2
 go_wp2_with fail
 refine(dt HR3.o 58 93 H2.o).mono ?_
 rintro e w4 ⟨rfl,hr4,hm4⟩
 have HM4:=I (HM3.o.trans hm4)
 have HR4:=I hr4
 have HP:=I (hU (d:=d) (fo:=fo) S true (i:Int) w4)
 clear hm4 hr4 HM3 HR3 H2
 go_wp2_with fail
 refine HP.o.mono ?_
 rintro e w5 (⟨f,sv,L,hR,rfl,hrd,hset,hb⟩|⟨z,a,hR,rfl,hb⟩)
 ·have HE:=I (hE.o.trans (by rw[hR]))
  have HF:=I (dQ.oN (i:=i) HE.o (hrd.low HM4.o.size) hset (HR4.o.ar hb) (by omega) (Mv.then HM4.o hb))
  obtain⟨ao,c,hv⟩:=hrd.shape
  rw[hv]at HF |-
  clear hR hrd hset hb hv HE hE
  go_wp2
  go_ret
  exact HF.o
 ·have HE:=I (hE.o.trans (by rw[hR]))
  have HF:=I (Mv.then HM4.o hb)
  clear hR hb hE
  simp only[aw]
  go_wp2
  exact⟨rfl,.inr ⟨z,a,HE.o,rfl,HF.o⟩⟩
theorem yx(h:BB w b v l i d fo)(hc:bZ l i=true)(hd:(d==1)=true)(h94:aX l (i+2) [94]=false)(hn:aH l (i+2)=[]):
  Calls prog 217 #[.pointer (some ⟨b,0,none⟩)] w fun e w'=>dQ (dT (par d fo) l i) b v l i d fo w e w':=by
 obtain⟨c0,c1,c2,c3,f1⟩:=h.cells
 have hE:=I (ic (d:=d) (fo:=fo) (l:=l) (i:=i) (no:=false) (j:=i+2) (n:=(aH l (i+2)).length) (by simp only[par];rw[hd,h94];rfl) rfl rfl (.inl hn))
 have HS1:=I (dt h 91 58 hc)
 obtain⟨n,hnn⟩:∃n,n=(aH l (i+2)).length:=⟨_,rfl⟩
 obtain⟨S,hS⟩:∃S,S=bE (aH l (i+2)):=⟨_,rfl⟩
 have HL:=I (fun w3 (hr3:BB w3 b v l (i+2) d fo)=>dC hr3)
 simp only[rp]at HL
 rw[<- hnn, <-hS]at HL
 rw[<- hnn]at hE
 have z1:S.toList=[]:=by rw[hS,hn,TK.dR];rfl
 have z2:S.toList.isEmpty=true:=by rw[z1];rfl
 clear hS hnn hn hc h c0 c2 c3 f1
 go_enter func217,ntmps217
 go_wp2_with fail
 refine HS1.o.mono ?_
 rintro e w1 ⟨rfl,hr1,hm1⟩
 have HM1:=I hm1
 have HR1:=I hr1
 clear hm1 hr1 HS1 c1
 go_wp2_with fail
 refine(dx HR1.o hd).mono ?_
 rintro e w1' ⟨rfl,rfl⟩
 go_wp2_with fail
 refine(qD HR1.o 94 h94).mono ?_
 rintro e w2 ⟨rfl,hr2,hm2⟩
 have HM2:=I (HM1.o.trans hm2)
 have HR2:=I hr2
 clear hm2 hr2 HM1 HR1 h94 hd
 go_wp2_with fail
 refine(HL.o _ HR2.o).mono ?_
 rintro e w3 ⟨rfl,hr3,hm3⟩
 have HM3:=I (HM2.o.trans hm3)
 have HR3:=I hr3
 obtain⟨c0,c1,c2,c3,f1⟩:=hr3.cells
 have HG:=I (aO 1 (((i+2+n:Nat):Int)) w3)
 simp only[aw]at HG
 clear hm3 hr3 HM2 HR2 HL c0 c2 c3 f1
 go_wp2_with fail
 refine HG.o.mono ?_
 rintro e w4 ⟨rfl,rfl⟩
 go_wp2
 exact⟨rfl,.inr ⟨1,_,hE.o,rfl,HM3.o⟩⟩
theorem zc(h:BB w b v l i d fo)(hc:bZ l i=true)(hd:(d==1)=true)(h94:aX l (i+2) [94]=false)(hn:¬aH l (i+2)=[])(h2:aX l (i+2+(aH l (i+2)).length) [58,93]=false):
  Calls prog 217 #[.pointer (some ⟨b,0,none⟩)] w fun e w'=>dQ (dT (par d fo) l i) b v l i d fo w e w':=by
 obtain⟨c0,c1,c2,c3,f1⟩:=h.cells
 have hE:=I (ic (d:=d) (fo:=fo) (l:=l) (i:=i) (no:=false) (j:=i+2) (n:=(aH l (i+2)).length) (by simp only[par];rw[hd,h94];rfl) rfl rfl (.inr h2))
 have HS1:=I (dt h 91 58 hc)
 obtain⟨n,hnn⟩:∃n,n=(aH l (i+2)).length:=⟨_,rfl⟩
 obtain⟨S,hS⟩:∃S,S=bE (aH l (i+2)):=⟨_,rfl⟩
 have HL:=I (fun w3 (hr3:BB w3 b v l (i+2) d fo)=>dC hr3)
 simp only[rp]at HL
 rw[<- hnn, <-hS]at HL
 rw[<- hnn]at hE
 rw[<- hnn]at h2
 have z1:¬S.toList=[]:=by rw[hS,TK.dR];simpa using hn
 have z2:S.toList.isEmpty=false:=fq.2 z1
 clear hS hnn hn hc h c0 c2 c3 f1
 go_enter func217,ntmps217
 go_wp2_with fail
 refine HS1.o.mono ?_
 rintro e w1 ⟨rfl,hr1,hm1⟩
 have HM1:=I hm1
 have HR1:=I hr1
 clear hm1 hr1 HS1 c1
 go_wp2_with fail
 refine(dx HR1.o hd).mono ?_
 rintro e w1' ⟨rfl,rfl⟩
 go_wp2_with fail
 refine(qD HR1.o 94 h94).mono ?_
 rintro e w2 ⟨rfl,hr2,hm2⟩
 have HM2:=I (HM1.o.trans hm2)
 have HR2:=I hr2
 clear hm2 hr2 HM1 HR1 h94 hd
 go_wp2_with fail
 refine(HL.o _ HR2.o).mono ?_
 rintro e w3 ⟨rfl,hr3,hm3⟩
 have HM3:=I (HM2.o.trans hm3)
 have HR3:=I hr3
 have H2:=I h2
 clear hm3 hr3 HM2 HR2 HL h2
 go_wp2_with fail
 refine(mE HR3.o 58 93 H2.o).mono ?_
 rintro e w4 ⟨rfl,hr4,hm4⟩
 have HM4:=I (HM3.o.trans hm4)
 obtain⟨c0,c1,c2,c3,f1⟩:=hr4.cells
 have HG:=I (aO 1 (((i+2+n:Nat):Int)) w4)
 simp only[aw]at HG
 clear hm4 hr4 HM3 HR3 c0 c2 c3 f1 H2
 go_wp2_with fail
 refine HG.o.mono ?_
 rintro e w5 ⟨rfl,rfl⟩
 go_wp2
 exact⟨rfl,.inr ⟨1,_,hE.o,rfl,HM4.o⟩⟩
theorem zb(h:BB w b v l i d fo)(hc:bZ l i=true)(hd:(d==1)=true)(h94:aX l (i+2) [94]=false)(hn:¬aH l (i+2)=[])(h2:aX l (i+2+(aH l (i+2)).length) [58,93]=true):
  Calls prog 217 #[.pointer (some ⟨b,0,none⟩)] w fun e w'=>dQ (dT (par d fo) l i) b v l i d fo w e w':=by
 obtain⟨c0,c1,c2,c3,f1⟩:=h.cells
 have hE:=I (pP (d:=d) (fo:=fo) (l:=l) (i:=i) (no:=false) (j:=i+2) (n:=(aH l (i+2)).length) (by simp only[par];rw[hd,h94];rfl) rfl rfl hn h2)
 have HS1:=I (dt h 91 58 hc)
 obtain⟨n,hnn⟩:∃n,n=(aH l (i+2)).length:=⟨_,rfl⟩
 obtain⟨S,hS⟩:∃S,S=bE (aH l (i+2)):=⟨_,rfl⟩
 have HL:=I (fun w3 (hr3:BB w3 b v l (i+2) d fo)=>dC hr3)
 simp only[rp]at HL
 rw[<- hnn, <-hS]at HL
 rw[<- hnn]at hE
 rw[<- hS]at hE
 rw[<- hnn]at h2
 have z1:¬S.toList=[]:=by rw[hS,TK.dR];simpa using hn
 have z2:S.toList.isEmpty=false:=fq.2 z1
 clear hS hnn hn hc h c0 c2 c3 f1
 go_enter func217,ntmps217
 go_wp2_with fail
 refine HS1.o.mono ?_
 rintro e w1 ⟨rfl,hr1,hm1⟩
 have HM1:=I hm1
 have HR1:=I hr1
 clear hm1 hr1 HS1 c1
 go_wp2_with fail
 refine(dx HR1.o hd).mono ?_
 rintro e w1' ⟨rfl,rfl⟩
 go_wp2_with fail
 refine(qD HR1.o 94 h94).mono ?_
 rintro e w2 ⟨rfl,hr2,hm2⟩
 have HM2:=I (HM1.o.trans hm2)
 have HR2:=I hr2
 clear hm2 hr2 HM1 HR1 h94 hd
 go_wp2_with fail
 refine(HL.o _ HR2.o).mono ?_
 rintro e w3 ⟨rfl,hr3,hm3⟩
 have HM3:=I (HM2.o.trans hm3)
 have HR3:=I hr3
 have H2:=I h2
 clear hm3 hr3 HM2 HR2 HL h2
 go_wp2_with fail
 refine(dt HR3.o 58 93 H2.o).mono ?_
 rintro e w4 ⟨rfl,hr4,hm4⟩
 have HM4:=I (HM3.o.trans hm4)
 have HR4:=I hr4
 have HP:=I (hU (d:=d) (fo:=fo) S false (i:Int) w4)
 clear hm4 hr4 HM3 HR3 H2
 go_wp2_with fail
 refine HP.o.mono ?_
 rintro e w5 (⟨f,sv,L,hR,rfl,hrd,hset,hb⟩|⟨z,a,hR,rfl,hb⟩)
 ·have HE:=I (hE.o.trans (by rw[hR]))
  have HF:=I (dQ.oN (i:=i) HE.o (hrd.low HM4.o.size) hset (HR4.o.ar hb) (by omega) (Mv.then HM4.o hb))
  obtain⟨ao,c,hv⟩:=hrd.shape
  rw[hv]at HF |-
  clear hR hrd hset hb hv HE hE
  go_wp2
  go_ret
  exact HF.o
 ·have HE:=I (hE.o.trans (by rw[hR]))
  have HF:=I (Mv.then HM4.o hb)
  clear hR hb hE
  simp only[aw]
  go_wp2
  exact⟨rfl,.inr ⟨z,a,HE.o,rfl,HF.o⟩⟩
theorem Bf(h:BB w b v l i d fo)(hc:bZ l i=true)(hd:(d==1)=false)(hn:aH l (i+2)=[]):
  Calls prog 217 #[.pointer (some ⟨b,0,none⟩)] w fun e w'=>dQ (dT (par d fo) l i) b v l i d fo w e w':=by
 obtain⟨c0,c1,c2,c3,f1⟩:=h.cells
 have hE:=I (ic (d:=d) (fo:=fo) (l:=l) (i:=i) (no:=false) (j:=i+2) (n:=(aH l (i+2)).length) (by simp only[par];rw[hd];rfl) rfl rfl (.inl hn))
 have HS1:=I (dt h 91 58 hc)
 obtain⟨n,hnn⟩:∃n,n=(aH l (i+2)).length:=⟨_,rfl⟩
 obtain⟨S,hS⟩:∃S,S=bE (aH l (i+2)):=⟨_,rfl⟩
 have HL:=I (fun w3 (hr3:BB w3 b v l (i+2) d fo)=>dC hr3)
 simp only[rp]at HL
 rw[<- hnn, <-hS]at HL
 rw[<- hnn]at hE
 have z1:S.toList=[]:=by rw[hS,hn,TK.dR];rfl
 have z2:S.toList.isEmpty=true:=by rw[z1];rfl
 clear hS hnn hn hc h c0 c2 c3 f1
 go_enter func217,ntmps217
 go_wp2_with fail
 refine HS1.o.mono ?_
 rintro e w1 ⟨rfl,hr1,hm1⟩
 have HM1:=I hm1
 have HR1:=I hr1
 clear hm1 hr1 HS1 c1
 go_wp2_with fail
 refine(dx HR1.o hd).mono ?_
 rintro e w1' ⟨rfl,rfl⟩
 have HM2:=HM1
 have HR2:=HR1
 clear HM1 HR1 hd
 go_wp2_with fail
 refine(HL.o _ HR2.o).mono ?_
 rintro e w3 ⟨rfl,hr3,hm3⟩
 have HM3:=I (HM2.o.trans hm3)
 have HR3:=I hr3
 obtain⟨c0,c1,c2,c3,f1⟩:=hr3.cells
 have HG:=I (aO 1 (((i+2+n:Nat):Int)) w3)
 simp only[aw]at HG
 clear hm3 hr3 HM2 HR2 HL c0 c2 c3 f1
 go_wp2_with fail
 refine HG.o.mono ?_
 rintro e w4 ⟨rfl,rfl⟩
 go_wp2
 exact⟨rfl,.inr ⟨1,_,hE.o,rfl,HM3.o⟩⟩
theorem AU(h:BB w b v l i d fo)(hc:bZ l i=true)(hd:(d==1)=false)(hn:¬aH l (i+2)=[])(h2:aX l (i+2+(aH l (i+2)).length) [58,93]=false):
  Calls prog 217 #[.pointer (some ⟨b,0,none⟩)] w fun e w'=>dQ (dT (par d fo) l i) b v l i d fo w e w':=by
 obtain⟨c0,c1,c2,c3,f1⟩:=h.cells
 have hE:=I (ic (d:=d) (fo:=fo) (l:=l) (i:=i) (no:=false) (j:=i+2) (n:=(aH l (i+2)).length) (by simp only[par];rw[hd];rfl) rfl rfl (.inr h2))
 have HS1:=I (dt h 91 58 hc)
 obtain⟨n,hnn⟩:∃n,n=(aH l (i+2)).length:=⟨_,rfl⟩
 obtain⟨S,hS⟩:∃S,S=bE (aH l (i+2)):=⟨_,rfl⟩
 have HL:=I (fun w3 (hr3:BB w3 b v l (i+2) d fo)=>dC hr3)
 simp only[rp]at HL
 rw[<- hnn, <-hS]at HL
 rw[<- hnn]at hE
 rw[<- hnn]at h2
 have z1:¬S.toList=[]:=by rw[hS,TK.dR];simpa using hn
 have z2:S.toList.isEmpty=false:=fq.2 z1
 clear hS hnn hn hc h c0 c2 c3 f1
 go_enter func217,ntmps217
 go_wp2_with fail
 refine HS1.o.mono ?_
 rintro e w1 ⟨rfl,hr1,hm1⟩
 have HM1:=I hm1
 have HR1:=I hr1
 clear hm1 hr1 HS1 c1
 go_wp2_with fail
 refine(dx HR1.o hd).mono ?_
 rintro e w1' ⟨rfl,rfl⟩
 have HM2:=HM1
 have HR2:=HR1
 clear HM1 HR1 hd
 go_wp2_with fail
 refine(HL.o _ HR2.o).mono ?_
 rintro e w3 ⟨rfl,hr3,hm3⟩
 have HM3:=I (HM2.o.trans hm3)
 have HR3:=I hr3
 have H2:=I h2
 clear hm3 hr3 HM2 HR2 HL h2
 go_wp2_with fail
 refine(mE HR3.o 58 93 H2.o).mono ?_
 rintro e w4 ⟨rfl,hr4,hm4⟩
 have HM4:=I (HM3.o.trans hm4)
 obtain⟨c0,c1,c2,c3,f1⟩:=hr4.cells
 have HG:=I (aO 1 (((i+2+n:Nat):Int)) w4)
 simp only[aw]at HG
 clear hm4 hr4 HM3 HR3 c0 c2 c3 f1 H2
 go_wp2_with fail
 refine HG.o.mono ?_
 rintro e w5 ⟨rfl,rfl⟩
 go_wp2
 exact⟨rfl,.inr ⟨1,_,hE.o,rfl,HM4.o⟩⟩
theorem BS(h:BB w b v l i d fo)(hc:bZ l i=true)(hd:(d==1)=false)(hn:¬aH l (i+2)=[])(h2:aX l (i+2+(aH l (i+2)).length) [58,93]=true):
  Calls prog 217 #[.pointer (some ⟨b,0,none⟩)] w fun e w'=>dQ (dT (par d fo) l i) b v l i d fo w e w':=by
 obtain⟨c0,c1,c2,c3,f1⟩:=h.cells
 have hE:=I (pP (d:=d) (fo:=fo) (l:=l) (i:=i) (no:=false) (j:=i+2) (n:=(aH l (i+2)).length) (by simp only[par];rw[hd];rfl) rfl rfl hn h2)
 have HS1:=I (dt h 91 58 hc)
 obtain⟨n,hnn⟩:∃n,n=(aH l (i+2)).length:=⟨_,rfl⟩
 obtain⟨S,hS⟩:∃S,S=bE (aH l (i+2)):=⟨_,rfl⟩
 have HL:=I (fun w3 (hr3:BB w3 b v l (i+2) d fo)=>dC hr3)
 simp only[rp]at HL
 rw[<- hnn, <-hS]at HL
 rw[<- hnn]at hE
 rw[<- hS]at hE
 rw[<- hnn]at h2
 have z1:¬S.toList=[]:=by rw[hS,TK.dR];simpa using hn
 have z2:S.toList.isEmpty=false:=fq.2 z1
 clear hS hnn hn hc h c0 c2 c3 f1
 go_enter func217,ntmps217
 go_wp2_with fail
 refine HS1.o.mono ?_
 rintro e w1 ⟨rfl,hr1,hm1⟩
 have HM1:=I hm1
 have HR1:=I hr1
 clear hm1 hr1 HS1 c1
 go_wp2_with fail
 refine(dx HR1.o hd).mono ?_
 rintro e w1' ⟨rfl,rfl⟩
 have HM2:=HM1
 have HR2:=HR1
 clear HM1 HR1 hd
 go_wp2_with fail
 refine(HL.o _ HR2.o).mono ?_
 rintro e w3 ⟨rfl,hr3,hm3⟩
 have HM3:=I (HM2.o.trans hm3)
 have HR3:=I hr3
 have H2:=I h2
 clear hm3 hr3 HM2 HR2 HL h2
 go_wp2_with fail
 refine(dt HR3.o 58 93 H2.o).mono ?_
 rintro e w4 ⟨rfl,hr4,hm4⟩
 have HM4:=I (HM3.o.trans hm4)
 have HR4:=I hr4
 have HP:=I (hU (d:=d) (fo:=fo) S false (i:Int) w4)
 clear hm4 hr4 HM3 HR3 H2
 go_wp2_with fail
 refine HP.o.mono ?_
 rintro e w5 (⟨f,sv,L,hR,rfl,hrd,hset,hb⟩|⟨z,a,hR,rfl,hb⟩)
 ·have HE:=I (hE.o.trans (by rw[hR]))
  have HF:=I (dQ.oN (i:=i) HE.o (hrd.low HM4.o.size) hset (HR4.o.ar hb) (by omega) (Mv.then HM4.o hb))
  obtain⟨ao,c,hv⟩:=hrd.shape
  rw[hv]at HF |-
  clear hR hrd hset hb hv HE hE
  go_wp2
  go_ret
  exact HF.o
 ·have HE:=I (hE.o.trans (by rw[hR]))
  have HF:=I (Mv.then HM4.o hb)
  clear hR hb hE
  simp only[aw]
  go_wp2
  exact⟨rfl,.inr ⟨z,a,HE.o,rfl,HF.o⟩⟩
theorem Bj(h:BB w b v l i d fo)(hc:bZ l i=true):
  Calls prog 217 #[.pointer (some ⟨b,0,none⟩)] w fun e w'=>dQ (dT (par d fo) l i) b v l i d fo w e w':=by
 cases hd:(d==1)with
 |true=>
  cases h94:aX l (i+2) [94]with
  |true=>
   by_cases hn:aH l (i+3)=[]
   ·exact yT h hc hd h94 hn
   ·cases h2:aX l (i+3+(aH l (i+3)).length) [58,93]with
    |true=>exact yO h hc hd h94 hn h2
    |false=>exact xG h hc hd h94 hn h2
  |false=>
   by_cases hn:aH l (i+2)=[]
   ·exact yx h hc hd h94 hn
   ·cases h2:aX l (i+2+(aH l (i+2)).length) [58,93]with
    |true=>exact zb h hc hd h94 hn h2
    |false=>exact zc h hc hd h94 hn h2
 |false=>
  by_cases hn:aH l (i+2)=[]
  ·exact Bf h hc hd hn
  ·cases h2:aX l (i+2+(aH l (i+2)).length) [58,93]with
   |true=>exact BS h hc hd hn h2
   |false=>exact AU h hc hd hn h2
end Go.Proofs.YtklbbbldalmnbaaGreatDoor.Br
