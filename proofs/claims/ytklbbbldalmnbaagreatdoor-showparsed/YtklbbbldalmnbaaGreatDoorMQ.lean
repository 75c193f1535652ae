import Derived.Test.YtklbbbldalmnbaaGreatDoorMC
import Derived.Test.YtklbbbldalmnbaaGreatDoorMP
set_option linter.unusedVariables false
set_option maxHeartbeats 8000000
set_option maxRecDepth 100000
open Go.Proofs.Tryz
namespace Go.Proofs.YtklbbbldalmnbaaGreatDoor.Pa
open Go.RowKit
end Go.Proofs.YtklbbbldalmnbaaGreatDoor.Pa
namespace Go.Proofs.YtklbbbldalmnbaaGreatDoor.Pa
open Go.RowKit Go.PlainAid
open TR (Tr NV aP cK aK bb ch)
open TK (Mv bL)
open Br (BE PS aF br bg)
variable {w w' : World} {v : Value} {l : List Int} {d : Int}
def jj(s:ByteArray)(k:Nat):List Int:=(List.range k).map fun i=>bt s i
theorem z8(s:ByteArray)(k:Nat):jj s (k+1)=jj s k++[bt s k]:=by simp[jj,List.range_succ]
theorem Db(s:ByteArray)(k:Nat):(jj s k).length=k:=by simp[jj]
theorem xq{B:Nat}{W:World}{u:Value}{L:List Int}(h:W.ownsRow B 3 1 u L.length (dy L)):bL W u L:=by
 rcases h.2 with⟨rfl,h0⟩|⟨g,cap,cur,h1,_,h3,h4,_⟩
 ·exact .inl ⟨rfl,List.eq_nil_of_length_eq_zero h0⟩
 ·refine .inr ⟨⟨g,0,none⟩,cap,h1,h4,fun j hj=>?_⟩
  rw[h1]at h
  rw[Gr,World.ownsRow.cellAt h j (by omega)]
  simp[dy,List.getElem?_eq_getElem hj]
theorem pc(s:ByteArray)(hs:s.size<=10000000000000)(w:World):Calls prog 18 #[.string s] w fun e w'=>∃u,e=.returned u/\w'.ownsRow w.heap.size 3 1 u (jj s s.size).length (dy (jj s s.size))/\Below w.heap.size w w':=by
 obtain⟨i0,hi0,hz0,hz1,hz2⟩:=info_parts I9
 have hg:=get_bt s
 go_enter func18,ntmps18
 go_wp2
 go_loopw [3,4] (fun kv u wr=>∃j:Nat,j<=s.size/\u=.int .i64 j/\wr.ownsRow w.heap.size 3 1 kv j (dy (jj s j))/\Below w.heap.size w wr) (fun _ u _=>s.size - (intOf u).toNat)
 case atStart=>exact⟨0,Nat.zero_le _,rfl,World.ownsRow_nil _ _ _ _,aI _ _⟩
 case round=>
  obtain⟨j,hj,rfl,ho,hb⟩:=hrel
  obtain⟨wq,hwq⟩:=J wr
  subst hwq
  have HO:=I ho
  have HB:=I hb
  have hbz:=hb.size
  obtain⟨ko,kc,hkv⟩:=aG ho
  rw[hkv]at HO |-
  clear ho hb hkv
  by_cases hlt:j<s.size
  ·have q1:(j:Int)<(s.size:Int):=by omega
   have q2:(0:Int)<=(j:Int):=by omega
   have hjw:IntKind.i64.wrap ((j:Int)+1)=(j:Int)+1:=by rw[IntKind.wrap_i64];omega
   have hb0:=bt_nonneg s j
   have hb1:=bt_le s j
   have hbw:IntKind.i64.wrap (bt s j)=bt s j:=by rw[IntKind.wrap_i64];omega
   go_wp2_with (at_builtin;refine wpList_append_own_at _ rfl _ _ 36 rfl w.heap.size 3 i0 (.int .i64 0) 1 8 underlying36 hi0 hz0 hz1 hz2 rfl (by decide) _ _ _ rfl (HO.o.alloc _) ⟨wq.heap.size,0,none⟩ 1 1 [.int .i64 (bt s j)] rfl rfl (cell_one_new _ _ _) (by simp[Value.oneCell']) (by unfold maxLen;omega) (by omega) (by simp;omega) ?_)
   intro v' w4 hown' hgrow _ _
   have HO4:Hid (w4.ownsRow w.heap.size 3 1 v' (j+1) (dy (jj s (j+1)))):=by
    show World.ownsRow _ _ _ _ _ _ _
    rw[z8,show dy (jj s j++[bt s j])=dy (jj s j)++[.int .i64 (bt s j)]from by simp[dy]]
    exact hown'
   have HB4:Hid (Below w.heap.size w w4):=(HB.o.alloc HB.o.size _).grown hgrow (by have:=HB.o.size;simp;omega) (fun k hk=>(HO.o.lt k hk).1)
   obtain⟨vo,vc,hv4⟩:=aG hown'
   rw[hv4]at HO4 |-
   clear hown' hgrow hv4
   go_wp2
   go_roundw
   case rel=>exact⟨j+1,by omega,by go_num,HO4.o,HB4.o⟩
   case measure=>simp[intOf];omega
  ·have q1:¬(j:Int)<(s.size:Int):=by omega
   have hjm:j=s.size:=by omega
   go_wp2
   go_ret
   refine⟨_,rfl,?_,HB.o⟩
   have:=HO.o
   rw[Db, <-hjm]
   exact this
/-! ### the pattern that must be read in any case -/
def GM:ByteArray:=⟨#[97,40,63,60,120,62,98,124,99,41,42]⟩
def cR:List Int:=[97,40,63,60,120,62,98,124,99,41,42]
theorem GP:jj GM GM.size=cR:=by decide +kernel
def bx:ByteArray:=⟨#[120]⟩
def KW:TK.Tok:={ kind:=7,num:=11,text:=bx }
def KX:TK.Tok:={ kind:=6,least:=0,ar:= -1,bC:=1 }
theorem Lc:TK.aV 1 cR 0=.ok (TK.aR 97,1):=by rfl
theorem Ld:TK.aV 1 cR 1=.ok (KW,6):=by rfl
theorem Le:TK.aV 1 cR 6=.ok (TK.aR 98,7):=by rfl
theorem Lg:TK.aV 1 cR 7=.ok ({ kind:=9 },8):=by rfl
theorem Lh:TK.aV 1 cR 8=.ok (TK.aR 99,9):=by rfl
theorem Li:TK.aV 1 cR 9=.ok ({ kind:=8 },10):=by rfl
theorem Ky:TK.aV 1 cR 10=.ok (KX,11):=by rfl
theorem mz{s:St}{i k:Nat}{t:TK.Tok}(hs:s.next=i)(hi:i≠cR.length)(h:TK.aV 1 cR i=.ok (t,k)):dF 1 cR s=.ok { s with pos:=i,tok:=t,next:=k }:=by
 unfold dF
 rw[hs,if_neg hi,h]
theorem Gx{s:St}(hs:s.next=cR.length):dF 1 cR s=.ok { s with pos:=s.next,tok:={} }:=by
 unfold dF
 rw[if_pos hs]
theorem GK{rec:Rd}{s s':St}{p:Int}(hk:s.tok=TK.aR p)(hf:s.aD=false)(ha:dF 1 cR s=.ok s'):dm 1 cR rec s=.ok (fh (gv (j8 p)),s'):=by
 unfold dm
 rw[if_neg (by rw[hk];show ¬(1:Int)=6;decide),if_neg (by rw[hk];show ¬(1:Int)=7;decide)]
 have hset:ki 1 cR s=.ok (j8 p,s.next):=by
  unfold ki
  rw[if_pos (by rw[hk];rfl),hf]
  rw[hk]
  rfl
 have hs:ct 1 cR s=.ok (fh (gv (j8 p)),s):=by
  unfold ct
  rw[if_neg (by rw[hk];show ¬(1:Int)=3;decide),if_neg (by rw[hk];show ¬(1:Int)=10;decide),if_neg (by rw[hk];show ¬(1:Int)=11;decide),hset]
 rw[hs]
 simp only[ha]
theorem rA{rec:Rd}{s s':St}{p:Int}(hk:s.tok=TK.aR p)(hf:s.aD=false)(ha:dF 1 cR s=.ok s')(h6:s'.tok.kind≠6):cJ 1 cR rec s=.ok (fh (gv (j8 p)),s'):=by
 unfold cJ
 rw[GK hk hf ha]
 simp only
 exact iI h6
theorem lV{rec:Rd}{n:Nat}{ps:List Tr}{s s':St}{t:Tr}(he:jZ cR s=false)(hp:cJ 1 cR rec s=.ok (t,s')):cQ 1 cR rec (n+1) ps s=cQ 1 cR rec n (ps++[t]) s':=by
 rw[gK he,hp]
noncomputable def B0:Tr:=fh (gv (j8 97))
noncomputable def B1:Tr:=fh (gv (j8 98))
noncomputable def B2:Tr:=fh (gv (j8 99))
noncomputable def gT:Tr:=.mk 11 1 0 0 0 false [] [.mk 10 0 0 0 0 false [] [B1,B2]]
noncomputable def rT:Tr:=.mk 12 0 0 (-1) 1 false [] [gT]
noncomputable def bT:Tr:=.mk 9 0 0 0 0 false [] [B0,rT]
def sA:St:={ tok:=TK.aR 97,pos:=0,next:=1 }
def sB:St:={ tok:=KW,pos:=1,next:=6 }
def Kl:St:={ sB with ay:=1,names:=[(bx,1)] }
def sC:St:={ Kl with tok:=TK.aR 98,pos:=6,next:=7 }
def ID:St:={ sC with deep:=1 }
def sD:St:={ ID with tok:={ kind:=9 },pos:=7,next:=8 }
def sE:St:={ ID with tok:=TK.aR 99,pos:=8,next:=9 }
def sF:St:={ ID with tok:={ kind:=8 },pos:=9,next:=10 }
def sG:St:={ Kl with tok:=KX,pos:=10,next:=11 }
def sH:St:={ Kl with tok:={},pos:=11,next:=11 }
theorem CX{rec:Rd}{s s1 s2 s3 s4:St}{t:Tr}(hd:s.deep≠20)(hn:s.tok.num=11)(h1:cX s s.tok.text=.ok s1)(h2:dF 1 cR s1=.ok s2)(h3:rec (bE s2 s.tok.fold) { s2 with deep:=s2.deep+1 }=.ok (t,s3))(h8:s3.tok.kind=8)(h4:dF 1 cR { s3 with deep:=s3.deep - 1 }=.ok s4):bW 1 cR rec s=.ok (.mk 11 (s1.ay:Nat) 0 0 0 false [] [t],s4):=by
 unfold bW
 rw[if_neg hd,if_pos hn,h1]
 simp only[h2,h3,h4]
 rw[if_neg (by rw[h8];simp),if_neg (by rw[hn];decide),hn]
 rfl
theorem AK{rec:Rd}{fo:Bool}{s s1 s2:St}{t:Tr}{bs:List Tr}(h1:bS 1 cR rec { s with aD:=fo }=.ok (t,s1))(h2:cT 1 cR rec (cR.length+1) [t] s1=.ok (bs,s2)):bH 1 cR rec fo s=.ok (eV bs,{ s2 with aD:=s.aD }):=by
 unfold bH
 rw[h1]
 simp only[h2]
theorem GL{rec:Rd}{n:Nat}{bs:List Tr}{s s1 s2:St}{t:Tr}(he:s.tok.kind=9)(h1:dF 1 cR s=.ok s1)(h2:bS 1 cR rec s1=.ok (t,s2)):cT 1 cR rec (n+1) bs s=cT 1 cR rec n (bs++[t]) s2:=by
 rw[sP he,h1]
 simp only[h2]
theorem kN{rec:Rd}{s s1:St}{ps:List Tr}(h:cQ 1 cR rec (cR.length+1) [] s=.ok (ps,s1)):bS 1 cR rec s=.ok (gO ps,s1):=by
 unfold bS
 rw[h]
theorem FO{rec:Rd}{s s1 s2:St}{t:Tr}(h1:dm 1 cR rec s=.ok (t,s1))(h11:s.tok.kind≠11)(h6:s1.tok.kind=6)(h2:dF 1 cR s1=.ok s2)(h3:s2.tok.kind≠6):cJ 1 cR rec s=.ok (cL t s1.tok,s2):=by
 unfold cJ
 rw[h1]
 simp only
 rw[show decide (s.tok.kind≠11)=true by simpa using h11,show(6:Nat)=5+1 from rfl,uZ h6,if_neg (by simp),if_neg (by omega),h2]
 simp only
 exact iI h3
theorem Jr(n:Nat):bk 1 cR (n+1) false ID=.ok (.mk 10 0 0 0 0 false [] [B1,B2],sF):=by
 have h1:bS 1 cR (bk 1 cR n) ID=.ok (B1,sD):=by
  refine kN (ps:=[B1]) ?_
  rw[show cR.length+1=11+1 from rfl,lV (s:=ID) (s':=sD) rfl (rA (s:=ID) (p:=98) rfl rfl (mz (s:=ID) rfl (by decide) Lg) (by decide)),eP rfl]
  rfl
 have h2:bS 1 cR (bk 1 cR n) sE=.ok (B2,sF):=by
  refine kN (ps:=[B2]) ?_
  rw[show cR.length+1=11+1 from rfl,lV (s:=sE) (s':=sF) rfl (rA (s:=sE) (p:=99) rfl rfl (mz (s:=sE) rfl (by decide) Li) (by decide)),eP rfl]
  rfl
 have h3:cT 1 cR (bk 1 cR n) (cR.length+1) [B1] sD=.ok ([B1,B2],sF):=by
  rw[show cR.length+1=11+1 from rfl,GL (s:=sD) (s1:=sE) rfl (mz (s:=sD) rfl (by decide) Lh) h2,ot (by decide)]
  rfl
 exact AK (s:=ID) (fo:=false) h1 h3
theorem KC:¬bx.toList=[]:=by rw[ByteArray.toList_eq];simp[bx]
theorem BN:cX sB sB.tok.text=.ok Kl:=by
 unfold cX
 rw[if_neg (by decide),if_neg (show ¬sB.tok.text.toList=[]from KC),if_neg (by decide)]
 rfl
theorem BO(n:Nat):dm 1 cR (bk 1 cR (n+1)) sB=.ok (gT,sG):=by
 unfold dm
 rw[if_neg (by decide),if_pos (by decide)]
 exact CX (s:=sB) (s1:=Kl) (s2:=sC) (s3:=sF) (s4:=sG) (by decide) (by decide) BN (mz (s:=Kl) rfl (by decide) Le) (Jr n) rfl (mz (s:={ sF with deep:=sF.deep - 1 }) rfl (by decide) Ky)
theorem GN(n:Nat):bk 1 cR (n+2) false sA=.ok (bT,sH):=by
 have h1:cJ 1 cR (bk 1 cR (n+1)) sB=.ok (rT,sH):=FO (s:=sB) (s1:=sG) (s2:=sH) (BO n) (by decide) rfl (Gx (s:=sG) rfl) (by decide)
 have h2:bS 1 cR (bk 1 cR (n+1)) sA=.ok (bT,sH):=by
  refine kN (ps:=[B0,rT]) ?_
  rw[show cR.length+1=10+1+1 from rfl,lV (s:=sA) (s':=sB) rfl (rA (s:=sA) (p:=97) rfl rfl (mz (s:=sA) rfl (by decide) Ld) (by decide)),lV (s:=sB) (s':=sH) rfl h1,eP rfl]
  rfl
 exact AK (s:=sA) (fo:=false) (bs:=[bT]) h2 (ot (by decide))
theorem Ar{s0 s:St}{t:Tr}(h0:dF 1 cR {}=.ok s0)(h1:bk 1 cR 21 false s0=.ok (t,s))(h8:s.tok.kind≠8)(ha:s.aE=[])(hb:dX (aZ [] t)=false):dZ dX 1 false cR=.ok ⟨aZ [] t,s.ay,s.names⟩:=by
 unfold dZ
 rw[h0]
 simp only[h1]
 rw[if_neg h8,ha]
 show(if dX (aZ [] t)=true then _ else _)=_
 rw[hb]
 rfl
theorem BP:iW dX 1 false cR=.ok ⟨bT,1,[(bx,1)]⟩:=by
 unfold iW
 rw[if_neg (by decide)]
 exact Ar (s0:=sA) (s:=sH) (t:=bT) (mz (s:={}) rfl (by decide) Lc) (GN 19) (by decide) rfl (by rfl)
variable {w w' : World} {v : Value} {l : List Int} {d : Int}
theorem GO:fc [(bx,1)] bx=some 1:=by decide +kernel
theorem sr(w:World)(hT:Fo.ja w)(hpos:3<w.heap.size):Calls prog 10 #[] w fun e w'=>e=.returned (.bool true)/\Below w.heap.size w w':=by
 have HP:=I (pc GM (by decide) w)
 rw[GP]at HP
 have HT:=I hT
 have HPos:=I hpos
 simp only[GM]at HP
 clear hT hpos
 go_enter func10,ntmps10
 go_wp2_with fail
 refine HP.o.mono ?_
 rintro e w1 ⟨u,rfl,hou,hb1⟩
 have HX:=I (xv (d:=1) false (xq hou) (HT.o.below hb1 HPos.o) (Nat.lt_of_lt_of_le HPos.o hb1.size))
 rw[BP]at HX
 have HB1:=I hb1
 obtain⟨uo,uc,huv⟩:=aG hou
 rw[huv]at HX |-
 clear hou hb1 huv HP
 go_wp2_with fail
 refine HX.o.mono ?_
 rintro e w2 (⟨p,n,x,hR,rfl,hnc,hb2⟩|⟨z,a,hR,rfl,hb2⟩)
 case inr=>cases hR
 cases hR
 obtain⟨hn,hm⟩:=hnc w2 (fun _ _ _=>rfl)
 have hkind:n.kind=9:=by have:=hn.open.1;exact this.symm
 have hkl:n.kl=2:=by
  obtain⟨-, -, -, -, -, -, -,vs,hk, -⟩:=hn.open
  exact hk.len
 obtain⟨xo,xc,hxv⟩:=hm.shape
 simp only[List.length_singleton]at hxv
 subst hxv
 obtain⟨w3,hw3⟩:=J ((w2.alloc (fX n 1 (.slice xo 1 xc))).alloc (br 0 0))
 have hb3:Below w2.heap.size w2 w3:=by rw[hw3];exact(an w2 _).alloc (by simp) _
 have hN3:w3.heap[w2.heap.size]? =some (fX n 1 (.slice xo 1 xc)):=by rw[hw3];exact TK.bj (TK.aj _ _)
 have hF3:w3.heap[w2.heap.size+1]? =some (br 0 0):=by rw[hw3];exact TK.bB _ _ (by simp)
 have HNu:=I (iT (.int .i64 n.kind) (.slice n.sa n.sl n.sc) (.slice n.ka n.kl n.kc) (.int .i64 n.num) (.int .i64 n.least) (.int .i64 n.ar) (.int .i64 n.bC) (.bool n.fold) (.int .i64 1) (.slice xo 1 xc) [(bx,1)] bx w3 (hm.below hb3))
 rw[GO]at HNu
 simp only[Option.getD_some,fG,bx]at HNu
 have HB3:=I ((HB1.o.aq hb2).trans (hb3.mono (Nat.le_trans HB1.o.size hb2.size)))
 have HN3:=I hN3
 have HF3:=I hF3
 simp only[fX,br,hkind,hkl]at hw3 HNu
 obtain⟨y0,y1,y2,y3,y4,y5,y6,y7,y8,y9⟩:=cU hN3
 obtain⟨ck,ck2,fk⟩:=bg hF3
 rw[hkind]at y0
 rw[hkl]at y2
 simp only[xE,hkind,hkl]
 rw[show (((1:Nat):Nat):Int)=1 from rfl]
 have HK:=I hkind
 have HKL:=I hkl
 clear hnc hn hm hb2 hb3 HX hN3 hF3 hkind hkl HT HPos
 go_upto_region 2 with fail
 rw[<- hw3]
 clear hw3
 go_wp2_with fail
 refine HNu.o.mono ?_
 rintro e w4 ⟨rfl,hb4⟩
 have hN4:w4.heap[w2.heap.size]? =some (fX n 1 (.slice xo 1 xc)):=by rw[hb4.block _ (TR.lt_of_block HN3.o)];exact HN3.o
 have hF4:w4.heap[w2.heap.size+1]? =some (br 0 0):=by rw[hb4.block _ (TR.lt_of_block HF3.o)];exact HF3.o
 clear y0 y1 y2 y3 y4 y5 y6 y7 y8 y9 ck ck2 fk
 obtain⟨y0,y1,y2,y3,y4,y5,y6,y7,y8,y9⟩:=cU hN4
 obtain⟨ck,ck2,fk⟩:=bg hF4
 rw[HK.o]at y0
 rw[HKL.o]at y2
 have HB4:=I (HB3.o.aq hb4)
 clear hN4 hF4 hb4 HNu
 go_wp2
 go_ret
 exact⟨rfl,HB4.o⟩
end Go.Proofs.YtklbbbldalmnbaaGreatDoor.Pa
