import Derived.Test.YtklbbbldalmnbaaGreatDoorMC
import Derived.Test.YtklbbbldalmnbaaGreatDoorMP
set_option linter.unusedVariables false
set_option maxHeartbeats 8000000
set_option maxRecDepth 100000
open Go.Proofs.Tryz
namespace Go.Proofs.YtklbbbldalmnbaaGreatDoor.Pa
open Go.RowKit
end Go.Proofs.YtklbbbldalmnbaaGreatDoor.Pa
namespace Go.Proofs.YtklbbbldalmnbaaGreatDoor.Pa
open Go.RowKit Go.PlainAid
open TR (Tr NV aL cz aG aV bS)
open TK (Mv bJ)
open Br (BE PS aw bm bh)
variable {w w' : World} {v : Value} {l : List Int} {d : Int}
def iU(s:ByteArray)(k:Nat):List Int:=(List.range k).map fun i=>bt s i
theorem yr(s:ByteArray)(k:Nat):iU s (k+1)=iU s k++[bt s k]:=by simp[iU,List.range_succ]
theorem Ba(s:ByteArray)(k:Nat):(iU s k).length=k:=by simp[iU]
theorem wF{B:Nat}{W:World}{u:Value}{L:List Int}(h:W.ownsRow B 3 1 u L.length (dm L)):bJ W u L:=by
 rcases h.2 with⟨rfl,h0⟩|⟨g,cap,cur,h1,_,h3,h4,_⟩
 ·exact .inl ⟨rfl,List.eq_nil_of_length_eq_zero h0⟩
 ·refine .inr ⟨⟨g,0,none⟩,cap,h1,h4,fun j hj=>?_⟩
  rw[h1]at h
  rw[C0,World.ownsRow.cellAt h j (by omega)]
  simp[dm,List.getElem?_eq_getElem hj]
theorem ox(s:ByteArray)(hs:s.size<=10000000000000)(w:World):Calls prog 18 #[.string s] w fun e w'=>∃u,e=.returned u/\w'.ownsRow w.heap.size 3 1 u (iU s s.size).length (dm (iU s s.size))/\Below w.heap.size w w':=by
 obtain⟨i0,hi0,hz0,hz1,hz2⟩:=info_parts Hw
 have hg:=get_bt s
 go_enter func18,ntmps18
 go_wp2
 go_loopw [3,4] (fun kv u wr=>∃j:Nat,j<=s.size/\u=.int .i64 j/\wr.ownsRow w.heap.size 3 1 kv j (dm (iU s j))/\Below w.heap.size w wr) (fun _ u _=>s.size - (intOf u).toNat)
 case atStart=>exact⟨0,Nat.zero_le _,rfl,World.ownsRow_nil _ _ _ _,J _ _⟩
 case round=>
  obtain⟨j,hj,rfl,ho,hb⟩:=hrel
  obtain⟨wq,hwq⟩:∃wq,wq=wr:=⟨_,rfl⟩
  subst hwq
  have HO:=I ho
  have HB:=I hb
  have hbz:=hb.size
  obtain⟨ko,kc,hkv⟩:=ax ho
  rw[hkv]at HO |-
  clear ho hb hkv
  by_cases hlt:j<s.size
  ·have q1:(j:Int)<(s.size:Int):=by omega
   have q2:(0:Int)<=(j:Int):=by omega
   have hjw:IntKind.i64.wrap ((j:Int)+1)=(j:Int)+1:=by rw[IntKind.wrap_i64];omega
   have hb0:=bt_nonneg s j
   have hb1:=bt_le s j
   have hbw:IntKind.i64.wrap (bt s j)=bt s j:=by rw[IntKind.wrap_i64];omega
   go_wp2_with (at_builtin;refine wpList_append_own_at _ rfl _ _ 36 rfl w.heap.size 3 i0 (.int .i64 0) 1 8 underlying36 hi0 hz0 hz1 hz2 rfl (by decide) _ _ _ rfl (HO.o.alloc _) ⟨wq.heap.size,0,none⟩ 1 1 [.int .i64 (bt s j)] rfl rfl (cell_one_new _ _ _) (by simp[Value.oneCell']) (by unfold maxLen;omega) (by omega) (by simp;omega) ?_)
   intro v' w4 hown' hgrow _ _
   have HO4:Hid (w4.ownsRow w.heap.size 3 1 v' (j+1) (dm (iU s (j+1)))):=by
    show World.ownsRow _ _ _ _ _ _ _
    rw[yr,show dm (iU s j++[bt s j])=dm (iU s j)++[.int .i64 (bt s j)]from by simp[dm]]
    exact hown'
   have HB4:Hid (Below w.heap.size w w4):=(HB.o.alloc HB.o.size _).grown hgrow (by have:=HB.o.size;simp;omega) (fun k hk=>(HO.o.lt k hk).1)
   obtain⟨vo,vc,hv4⟩:=ax hown'
   rw[hv4]at HO4 |-
   clear hown' hgrow hv4
   go_wp2
   go_roundw
   case rel=>exact⟨j+1,by omega,by go_num,HO4.o,HB4.o⟩
   case measure=>simp[intOf];omega
  ·have q1:¬(j:Int)<(s.size:Int):=by omega
   have hjm:j=s.size:=by omega
   go_wp2
   go_ret
   refine⟨_,rfl,?_,HB.o⟩
   have:=HO.o
   rw[Ba, <-hjm]
   exact this
/-! ### the pattern that must be read in any case -/
def Fz:ByteArray:=⟨#[97,40,63,60,120,62,98,124,99,41,42]⟩
def cF:List Int:=[97,40,63,60,120,62,98,124,99,41,42]
theorem FU:iU Fz Fz.size=cF:=by decide +kernel
def bx:ByteArray:=⟨#[120]⟩
def Jt:TK.Tok:={ kind:=7,num:=11,text:=bx }
def JL:TK.Tok:={ kind:=6,least:=0,an:= -1,bB:=1 }
theorem Kb:TK.aQ 1 cF 0=.ok (TK.aM 97,1):=by rfl
theorem J2:TK.aQ 1 cF 1=.ok (Jt,6):=by rfl
theorem J6:TK.aQ 1 cF 6=.ok (TK.aM 98,7):=by rfl
theorem J5:TK.aQ 1 cF 7=.ok ({ kind:=9 },8):=by rfl
theorem Kr:TK.aQ 1 cF 8=.ok (TK.aM 99,9):=by rfl
theorem J0:TK.aQ 1 cF 9=.ok ({ kind:=8 },10):=by rfl
theorem JQ:TK.aQ 1 cF 10=.ok (JL,11):=by rfl
theorem lU{s:St}{i k:Nat}{t:TK.Tok}(hs:s.next=i)(hi:i≠cF.length)(h:TK.aQ 1 cF i=.ok (t,k)):dH 1 cF s=.ok { s with pos:=i,tok:=t,next:=k }:=by
 unfold dH
 rw[hs,if_neg hi,h]
theorem GK{s:St}(hs:s.next=cF.length):dH 1 cF s=.ok { s with pos:=s.next,tok:={} }:=by
 unfold dH
 rw[if_pos hs]
theorem Hh{rec:Rd}{s s':St}{p:Int}(hk:s.tok=TK.aM p)(hf:s.aD=false)(ha:dH 1 cF s=.ok s'):dy 1 cF rec s=.ok (fg (iI (jF p)),s'):=by
 unfold dy
 rw[if_neg (by rw[hk];show ¬(1:Int)=6;decide),if_neg (by rw[hk];show ¬(1:Int)=7;decide)]
 have hset:lW 1 cF s=.ok (jF p,s.next):=by
  unfold lW
  rw[if_pos (by rw[hk];rfl),hf]
  rw[hk]
  rfl
 have hs:cJ 1 cF s=.ok (fg (iI (jF p)),s):=by
  unfold cJ
  rw[if_neg (by rw[hk];show ¬(1:Int)=3;decide),if_neg (by rw[hk];show ¬(1:Int)=10;decide),if_neg (by rw[hk];show ¬(1:Int)=11;decide),hset]
 rw[hs]
 simp only[ha]
theorem pN{rec:Rd}{s s':St}{p:Int}(hk:s.tok=TK.aM p)(hf:s.aD=false)(ha:dH 1 cF s=.ok s')(h6:s'.tok.kind≠6):cN 1 cF rec s=.ok (fg (iI (jF p)),s'):=by
 unfold cN
 rw[Hh hk hf ha]
 simp only
 exact ie h6
theorem lv{rec:Rd}{n:Nat}{ps:List Tr}{s s':St}{t:Tr}(he:lC cF s=false)(hp:cN 1 cF rec s=.ok (t,s')):dd 1 cF rec (n+1) ps s=dd 1 cF rec n (ps++[t]) s':=by
 rw[gy he,hp]
noncomputable def B0:Tr:=fg (iI (jF 97))
noncomputable def B1:Tr:=fg (iI (jF 98))
noncomputable def B2:Tr:=fg (iI (jF 99))
noncomputable def gT:Tr:=.mk 11 1 0 0 0 false [] [.mk 10 0 0 0 0 false [] [B1,B2]]
noncomputable def rT:Tr:=.mk 12 0 0 (-1) 1 false [] [gT]
noncomputable def bT:Tr:=.mk 9 0 0 0 0 false [] [B0,rT]
def sA:St:={ tok:=TK.aM 97,pos:=0,next:=1 }
def sB:St:={ tok:=Jt,pos:=1,next:=6 }
def Jb:St:={ sB with aF:=1,names:=[(bx,1)] }
def sC:St:={ Jb with tok:=TK.aM 98,pos:=6,next:=7 }
def F9:St:={ sC with deep:=1 }
def sD:St:={ F9 with tok:={ kind:=9 },pos:=7,next:=8 }
def sE:St:={ F9 with tok:=TK.aM 99,pos:=8,next:=9 }
def sF:St:={ F9 with tok:={ kind:=8 },pos:=9,next:=10 }
def sG:St:={ Jb with tok:=JL,pos:=10,next:=11 }
def sH:St:={ Jb with tok:={},pos:=11,next:=11 }
theorem BK{rec:Rd}{s s1 s2 s3 s4:St}{t:Tr}(hd:s.deep≠20)(hn:s.tok.num=11)(h1:cZ s s.tok.text=.ok s1)(h2:dH 1 cF s1=.ok s2)(h3:rec (bw s2 s.tok.fold) { s2 with deep:=s2.deep+1 }=.ok (t,s3))(h8:s3.tok.kind=8)(h4:dH 1 cF { s3 with deep:=s3.deep - 1 }=.ok s4):cd 1 cF rec s=.ok (.mk 11 (s1.aF:Nat) 0 0 0 false [] [t],s4):=by
 unfold cd
 rw[if_neg hd,if_pos hn,h1]
 simp only[h2,h3,h4]
 rw[if_neg (by rw[h8];simp),if_neg (by rw[hn];decide),hn]
 rfl
theorem zO{rec:Rd}{fo:Bool}{s s1 s2:St}{t:Tr}{bs:List Tr}(h1:cr 1 cF rec { s with aD:=fo }=.ok (t,s1))(h2:cV 1 cF rec (cF.length+1) [t] s1=.ok (bs,s2)):bR 1 cF rec fo s=.ok (eX bs,{ s2 with aD:=s.aD }):=by
 unfold bR
 rw[h1]
 simp only[h2]
theorem GB{rec:Rd}{n:Nat}{bs:List Tr}{s s1 s2:St}{t:Tr}(he:s.tok.kind=9)(h1:dH 1 cF s=.ok s1)(h2:cr 1 cF rec s1=.ok (t,s2)):cV 1 cF rec (n+1) bs s=cV 1 cF rec n (bs++[t]) s2:=by
 rw[sW he,h1]
 simp only[h2]
theorem kG{rec:Rd}{s s1:St}{ps:List Tr}(h:dd 1 cF rec (cF.length+1) [] s=.ok (ps,s1)):cr 1 cF rec s=.ok (gU ps,s1):=by
 unfold cr
 rw[h]
theorem DD{rec:Rd}{s s1 s2:St}{t:Tr}(h1:dy 1 cF rec s=.ok (t,s1))(h11:s.tok.kind≠11)(h6:s1.tok.kind=6)(h2:dH 1 cF s1=.ok s2)(h3:s2.tok.kind≠6):cN 1 cF rec s=.ok (cD t s1.tok,s2):=by
 unfold cN
 rw[h1]
 simp only
 rw[show decide (s.tok.kind≠11)=true by simpa using h11,show(6:Nat)=5+1 from rfl,tn h6,if_neg (by simp),if_neg (by omega),h2]
 simp only
 exact ie h3
theorem IX(n:Nat):bf 1 cF (n+1) false F9=.ok (.mk 10 0 0 0 0 false [] [B1,B2],sF):=by
 have h1:cr 1 cF (bf 1 cF n) F9=.ok (B1,sD):=by
  refine kG (ps:=[B1]) ?_
  rw[show cF.length+1=11+1 from rfl,lv (s:=F9) (s':=sD) rfl (pN (s:=F9) (p:=98) rfl rfl (lU (s:=F9) rfl (by decide) J5) (by decide)),ew rfl]
  rfl
 have h2:cr 1 cF (bf 1 cF n) sE=.ok (B2,sF):=by
  refine kG (ps:=[B2]) ?_
  rw[show cF.length+1=11+1 from rfl,lv (s:=sE) (s':=sF) rfl (pN (s:=sE) (p:=99) rfl rfl (lU (s:=sE) rfl (by decide) J0) (by decide)),ew rfl]
  rfl
 have h3:cV 1 cF (bf 1 cF n) (cF.length+1) [B1] sD=.ok ([B1,B2],sF):=by
  rw[show cF.length+1=11+1 from rfl,GB (s:=sD) (s1:=sE) rfl (lU (s:=sD) rfl (by decide) Kr) h2,od (by decide)]
  rfl
 exact zO (s:=F9) (fo:=false) h1 h3
theorem Ji:¬bx.toList=[]:=by rw[ByteArray.toList_eq];simp[bx]
theorem AR:cZ sB sB.tok.text=.ok Jb:=by
 unfold cZ
 rw[if_neg (by decide),if_neg (show ¬sB.tok.text.toList=[]from Ji),if_neg (by decide)]
 rfl
theorem AJ(n:Nat):dy 1 cF (bf 1 cF (n+1)) sB=.ok (gT,sG):=by
 unfold dy
 rw[if_neg (by decide),if_pos (by decide)]
 exact BK (s:=sB) (s1:=Jb) (s2:=sC) (s3:=sF) (s4:=sG) (by decide) (by decide) AR (lU (s:=Jb) rfl (by decide) J6) (IX n) rfl (lU (s:={ sF with deep:=sF.deep - 1 }) rfl (by decide) JQ)
theorem F6(n:Nat):bf 1 cF (n+2) false sA=.ok (bT,sH):=by
 have h1:cN 1 cF (bf 1 cF (n+1)) sB=.ok (rT,sH):=DD (s:=sB) (s1:=sG) (s2:=sH) (AJ n) (by decide) rfl (GK (s:=sG) rfl) (by decide)
 have h2:cr 1 cF (bf 1 cF (n+1)) sA=.ok (bT,sH):=by
  refine kG (ps:=[B0,rT]) ?_
  rw[show cF.length+1=10+1+1 from rfl,lv (s:=sA) (s':=sB) rfl (pN (s:=sA) (p:=97) rfl rfl (lU (s:=sA) rfl (by decide) J2) (by decide)),lv (s:=sB) (s':=sH) rfl h1,ew rfl]
  rfl
 exact zO (s:=sA) (fo:=false) (bs:=[bT]) h2 (od (by decide))
theorem za{s0 s:St}{t:Tr}(h0:dH 1 cF {}=.ok s0)(h1:bf 1 cF 21 false s0=.ok (t,s))(h8:s.tok.kind≠8)(ha:s.ay=[])(hb:eo (bq [] t)=false):dY eo 1 false cF=.ok ⟨bq [] t,s.aF,s.names⟩:=by
 unfold dY
 rw[h0]
 simp only[h1]
 rw[if_neg h8,ha]
 show(if eo (bq [] t)=true then _ else _)=_
 rw[hb]
 rfl
theorem BP:mN eo 1 false cF=.ok ⟨bT,1,[(bx,1)]⟩:=by
 unfold mN
 rw[if_neg (by decide)]
 exact za (s0:=sA) (s:=sH) (t:=bT) (lU (s:={}) rfl (by decide) Kb) (F6 19) (by decide) rfl (by rfl)
variable {w w' : World} {v : Value} {l : List Int} {d : Int}
theorem G4:eL [(bx,1)] bx=some 1:=by decide +kernel
theorem rj(w:World)(hT:Fo.iP w)(hpos:3<w.heap.size):Calls prog 10 #[] w fun e w'=>e=.returned (.bool true)/\Below w.heap.size w w':=by
 have HP:=I (ox Fz (by decide) w)
 rw[FU]at HP
 have HT:=I hT
 have HPos:=I hpos
 simp only[Fz]at HP
 clear hT hpos
 go_enter func10,ntmps10
 go_wp2_with fail
 refine HP.o.mono ?_
 rintro e w1 ⟨u,rfl,hou,hb1⟩
 have HX:=I (wi (d:=1) false (wF hou) (HT.o.below hb1 HPos.o) (Nat.lt_of_lt_of_le HPos.o hb1.size))
 rw[BP]at HX
 have HB1:=I hb1
 obtain⟨uo,uc,huv⟩:=ax hou
 rw[huv]at HX |-
 clear hou hb1 huv HP
 go_wp2_with fail
 refine HX.o.mono ?_
 rintro e w2 (⟨p,n,x,hR,rfl,hnc,hb2⟩|⟨z,a,hR,rfl,hb2⟩)
 case inr=>cases hR
 cases hR
 obtain⟨hn,hm⟩:=hnc w2 (fun _ _ _=>rfl)
 have hkind:n.kind=9:=by have:=hn.open.1;exact this.symm
 have hkl:n.kl=2:=by
  obtain⟨-, -, -, -, -, -, -,vs,hk, -⟩:=hn.open
  exact hk.len
 obtain⟨xo,xc,hxv⟩:=hm.shape
 simp only[List.length_singleton]at hxv
 subst hxv
 obtain⟨w3,hw3⟩:∃w3,w3=(w2.alloc (fh n 1 (.slice xo 1 xc))).alloc (bm 0 0):=⟨_,rfl⟩
 have hb3:Below w2.heap.size w2 w3:=by rw[hw3];exact((J _ w2).alloc (U _) _).alloc (by simp) _
 have hN3:w3.heap[w2.heap.size]? =some (fh n 1 (.slice xo 1 xc)):=by rw[hw3];exact TK.ba (TK.aj _ _)
 have hF3:w3.heap[w2.heap.size+1]? =some (bm 0 0):=by rw[hw3];exact TK.bp _ _ (by simp)
 have HNu:=I (iy (.int .i64 n.kind) (.slice n.sa n.sl n.sc) (.slice n.ka n.kl n.kc) (.int .i64 n.num) (.int .i64 n.least) (.int .i64 n.an) (.int .i64 n.bB) (.bool n.fold) (.int .i64 1) (.slice xo 1 xc) [(bx,1)] bx w3 (hm.below hb3))
 rw[G4]at HNu
 simp only[Option.getD_some,fG,bx]at HNu
 have HB3:=I ((HB1.o.trans (hb2.mono HB1.o.size)).trans (hb3.mono (Nat.le_trans HB1.o.size hb2.size)))
 have HN3:=I hN3
 have HF3:=I hF3
 simp only[fh,bm,hkind,hkl]at hw3 HNu
 obtain⟨y0,y1,y2,y3,y4,y5,y6,y7,y8,y9⟩:=cO hN3
 obtain⟨ck,ck2,fk⟩:=bh hF3
 rw[hkind]at y0
 rw[hkl]at y2
 simp only[xF,hkind,hkl]
 rw[show (((1:Nat):Nat):Int)=1 from rfl]
 have HK:=I hkind
 have HKL:=I hkl
 clear hnc hn hm hb2 hb3 HX hN3 hF3 hkind hkl HT HPos
 go_upto_region 2 with fail
 rw[<- hw3]
 clear hw3
 go_wp2_with fail
 refine HNu.o.mono ?_
 rintro e w4 ⟨rfl,hb4⟩
 have hN4:w4.heap[w2.heap.size]? =some (fh n 1 (.slice xo 1 xc)):=by rw[hb4.block _ (TR.lt_of_block HN3.o)];exact HN3.o
 have hF4:w4.heap[w2.heap.size+1]? =some (bm 0 0):=by rw[hb4.block _ (TR.lt_of_block HF3.o)];exact HF3.o
 clear y0 y1 y2 y3 y4 y5 y6 y7 y8 y9 ck ck2 fk
 obtain⟨y0,y1,y2,y3,y4,y5,y6,y7,y8,y9⟩:=cO hN4
 obtain⟨ck,ck2,fk⟩:=bh hF4
 rw[HK.o]at y0
 rw[HKL.o]at y2
 have HB4:=I (HB3.o.trans (hb4.mono HB3.o.size))
 clear hN4 hF4 hb4 HNu
 go_wp2
 go_ret
 exact⟨rfl,HB4.o⟩
end Go.Proofs.YtklbbbldalmnbaaGreatDoor.Pa
