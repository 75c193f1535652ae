import Derived.Test.YtklbbbldalmnbaaGreatDoorKJ
import Derived.Shelf.Abstract
set_option maxHeartbeats 4000000
set_option linter.unusedVariables false
set_option maxRecDepth 100000
open Go.Proofs.Tryz
namespace Go.Proofs.YtklbbbldalmnbaaGreatDoor.TK
open Go.RowKit
def bJ(w:World)(v:Value)(l:List Int):Prop:=(v=.slice none 0 0/\l=[])\/∃x c,v=.slice (some x) l.length c/\l.length<=c/\bU w x l
theorem bU.below{w w':World}{x:Addr}{l:List Int}(h:bU w x l)(hb:Below w.heap.size w w'):bU w' x l:=fun j hj=>by
 rw[hb.cell (World.block_lt_of_cell? _ _ (h j hj))];exact h j hj
theorem bJ.below{w w':World}{v:Value}{l:List Int}(h:bJ w v l)(hb:Below w.heap.size w w'):bJ w' v l:=by
 rcases h with h|⟨x,c,h1,h2,h3⟩
 ·exact .inl h
 ·exact .inr ⟨x,c,h1,h2,h3.below hb⟩
theorem bJ.shape{w:World}{v:Value}{l:List Int}(h:bJ w v l):∃ao c,v=.slice ao l.length c:=by
 rcases h with⟨rfl,rfl⟩|⟨x,c,h1,_⟩
 ·exact⟨none,0,rfl⟩
 ·exact⟨some x,c,h1⟩
theorem bJ.some{w:World}{v:Value}{l:List Int}(h:bJ w v l)(hl:0<l.length):∃x c,v=.slice (some x) l.length c/\l.length<=c/\bU w x l:=by
 rcases h with⟨rfl,rfl⟩|h
 ·simp at hl
 ·exact h
theorem DY(p:Int)(w:World):Calls prog 29 #[.int .i64 p] w fun e w'=>e=.returned (.bool (eA p))/\w=w':=by
 go_enter func29,ntmps29
 go_wp2
 all_goals go_ret
 all_goals exact⟨bD (by unfold eA;rw[Bool.eq_iff_iff];simp<;>omega),rfl⟩
theorem DS(p:Int)(w:World):Calls prog 28 #[.int .i64 p] w fun e w'=>e=.returned (.bool (!eA p))/\w=w':=by
 have H:=I (DY p w)
 obtain⟨z,hz⟩:∃z,z=eA p:=⟨_,rfl⟩
 rw[<- hz]at H |-
 clear hz
 go_enter func28,ntmps28
 go_wp2_with fail
 refine H.o.mono ?_
 rintro e w' ⟨rfl,rfl⟩
 go_wp2
 go_ret
 exact⟨rfl,rfl⟩
theorem Ez(args:Array Value)(w:World):(callFunc 28 args).run prog w=.ok (.enter 28 args) w:=Go.Proofs.enters_of func28 (by kernel_rfl) rfl args w
def rr(l:List Int):Bool:=!l.all eA
theorem ry(v:Value)(l:List Int)(w:World)(h:bJ w v l)(hl:l.length<=300):
  Calls prog 46 #[v,.func (.func 28) #[] #[]] w fun e w'=>∃z:Int,e=.returned (.int .i64 z)/\(0<=z↔rr l=true)/\w=w':=by
 obtain⟨ao,c,hv⟩:=h.shape
 have H:=I h
 obtain⟨n,hn⟩:∃n,n=l.length:=⟨_,rfl⟩
 have HN:=I hn
 rw[<- hn]at hv hl
 rw[hv]at H |-
 clear h hv hn
 have eg:=Ez
 go_enter func46,ntmps46
 go_wp2
 go_loop [8] (fun i=>∃k:Nat,k<=n/\i=.int .i64 k/\(l.take k).all eA=true) (fun i=>n - (intOf i).toNat)
 case atStart=>exact⟨0,Nat.zero_le _,rfl,by simp⟩
 case round=>
  obtain⟨k,hk,rfl,ha⟩:=hrel
  have HA:=I ha
  clear ha
  by_cases hlt:k<n
  ·have hkl:k<l.length:=by have:=HN.o;omega
   obtain⟨x,cx,hx,hcap,hrd⟩:=H.o.some (by omega)
   obtain⟨rfl⟩:ao=some x:=by cases hx;rfl
   have hc:=hrd k hkl
   obtain⟨p,hp⟩:∃p,p=l[k]:=⟨_,rfl⟩
   rw[<- hp]at hc
   have HP:=I hp
   have HF:=I (fun w=>DS p w)
   have e1:(k:Int)<(n:Int):=by omega
   clear hp hx hcap hrd
   cases hb:eA p with
   |true=>
    rw[hb]at HF
    have hnx:Hid ((l.take (k+1)).all eA=true):=by
     show _=_
     rw[List.take_succ_eq_append_getElem hkl,List.all_append,HA.o, <-HP.o]
     simp[hb]
    clear hb
    go_wp2_with (go_at_fn 28;refine(HF.o _).mono ?_;rintro e w' ⟨rfl,rfl⟩)
    go_round
    case rel=>exact⟨k+1,by omega,by go_num,hnx.o⟩
    case measure=>simp[intOf];omega
   |false=>
    rw[hb]at HF
    have hno:Hid (rr l=true):=by
     show _=_
     unfold rr
     rw[Bool.not_eq_true']
     rw[List.all_eq_false]
     exact⟨l[k],List.getElem_mem _,by rw[<- HP.o,hb];simp⟩
    clear hb
    go_wp2_with (go_at_fn 28;refine(HF.o _).mono ?_;rintro e w' ⟨rfl,rfl⟩)
    go_ret
    exact⟨k,rfl,⟨fun _=>hno.o,fun _=>Int.natCast_nonneg k⟩,rfl⟩
  ·have hall:Hid (rr l=false):=by
    show _=_
    unfold rr
    rw[Bool.not_eq_false']
    have:=HA.o
    rw[List.take_of_length_le (by have:=HN.o;omega)]at this
    exact this
   go_wp2
   go_ret
   refine⟨-1,rfl,⟨fun h=>absurd h (by decide),fun h=>?_⟩,rfl⟩
   rw[hall.o]at h
   cases h
theorem oe(v:Value)(l:List Int)(w:World)(h:bJ w v l)(hl:l.length<=300):
  Calls prog 27 #[v,.func (.func 28) #[] #[]] w fun e w'=>e=.returned (.bool (rr l))/\w=w':=by
 have HI:=I (ry v l w h hl)
 obtain⟨ao,c,hv⟩:=h.shape
 rw[hv]at HI |-
 clear h hv
 go_enter func27,ntmps27
 go_wp2_with fail
 refine HI.o.mono ?_
 rintro e w' ⟨z,rfl,hz,rfl⟩
 have HZ:=I hz
 clear hz
 go_wp2
 go_ret
 refine⟨bD ?_,rfl⟩
 rw[Bool.eq_iff_iff]
 simp only[decide_eq_true_eq,HZ.o]
theorem fU(d:Int)(v:Value)(l:List Int)(w:World)(h:bJ w v l):Calls prog 20 #[.int .i64 d,v] w fun e w'=>e=.returned (.int .i64 (cq d l))/\w=w':=by
 obtain⟨ao,c,hv⟩:=h.shape
 by_cases hd:d=1\/d=2\/d=3
 ·by_cases hl:300<l.length
  ·have hE:Hid (cq d l=2):=by show _=_;unfold cq;rw[if_neg (by omega),if_pos hl]
   have hli:(300:Int)<(l.length:Int):=by omega
   rw[hv]
   clear h hv
   rcases hd with rfl|rfl|rfl
   all_goals
    go_enter func20,ntmps20
    go_wp2
    go_ret
    exact⟨ej hE.o.symm,rfl⟩
  ·have HC:=I (oe v l w h (by omega))
   have hE0:Hid (cq d l=if l.all eA then 0 else 3):=by show _=_;unfold cq;rw[if_neg (by omega),if_neg hl]
   have hli:¬(300:Int)<(l.length:Int):=by omega
   rw[hv]at HC |-
   clear h hv
   cases ha:l.all eA with
   |true=>
    have hE:Hid (cq d l=0):=by show _=_;rw[hE0.o,ha];rfl
    have hbd:rr l=false:=by unfold rr;rw[ha];rfl
    rw[hbd]at HC
    clear hbd
    clear ha hE0
    rcases hd with rfl|rfl|rfl
    all_goals
     go_enter func20,ntmps20
     go_wp2_with fail
     refine HC.o.mono ?_
     rintro e w' ⟨rfl,rfl⟩
     go_wp2
     go_ret
     exact⟨ej hE.o.symm,rfl⟩
   |false=>
    have hE:Hid (cq d l=3):=by show _=_;rw[hE0.o,ha];rfl
    have hbd:rr l=true:=by unfold rr;rw[ha];rfl
    rw[hbd]at HC
    clear hbd
    clear ha hE0
    rcases hd with rfl|rfl|rfl
    all_goals
     go_enter func20,ntmps20
     go_wp2_with fail
     refine HC.o.mono ?_
     rintro e w' ⟨rfl,rfl⟩
     go_wp2
     go_ret
     exact⟨ej hE.o.symm,rfl⟩
 ·have hE:Hid (cq d l=7):=by show _=_;unfold cq;rw[if_pos (by omega)]
  have b1:(d !=1)=true:=by simp;omega
  have b2:(d !=2)=true:=by simp;omega
  have b3:(d !=3)=true:=by simp;omega
  rw[hv]
  clear h hv hd
  go_enter func20,ntmps20
  go_wp2
  go_ret
  exact⟨ej hE.o.symm,rfl⟩
theorem dh{B:Nat}{w w1:World}(h:Below B w w1){k:Nat}(hk:B<=k)(v0 v1 v2 v3 v4 v5 v6 v7:Value):
  Below B w ((((((((w1.setCell ⟨k,0,none⟩ v0).setCell ⟨k,1,none⟩ v1).setCell ⟨k,2,none⟩ v2).setCell ⟨k,3,none⟩ v3).setCell ⟨k,4,none⟩ v4).setCell ⟨k,5,none⟩ v5).setCell ⟨k,6,none⟩ v6).setCell ⟨k,7,none⟩ v7):=
 (((((((h.setCell (p:=⟨k,0,none⟩) hk v0).setCell (p:=⟨k,1,none⟩) hk v1).setCell (p:=⟨k,2,none⟩) hk v2).setCell (p:=⟨k,3,none⟩) hk v3).setCell (p:=⟨k,4,none⟩) hk v4).setCell (p:=⟨k,5,none⟩) hk v5).setCell (p:=⟨k,6,none⟩) hk v6).setCell (p:=⟨k,7,none⟩) hk v7
def fx(d:Int)(l:List Int)(a:Int):RT:=if cq d l≠0 then .error (cq d l)else if a<0\/(l.length:Int)<=a then .error 3 else aQ d l a.toNat
theorem oW{d:Int}{l:List Int}(h:cq d l=0):(d=1\/d=2\/d=3)/\l.length<=300/\∀p∈l,0<=p/\p<=1114111:=by
 unfold cq at h
 split at h
 ·cases h
 ·split at h
  ·cases h
  ·split at h
   ·rename_i h1 h2 h3
    refine⟨by omega,by omega,fun p hp=>?_⟩
    have:=List.all_eq_true.1 h3 p hp
    simpa[eA]using this
   ·cases h
theorem kj{tmps:Array Value}{W:World}{N:Nat}{t:Tok}{k z:Int}{R:Ending->World->Prop}(h6:tmps[6]? =some (.pointer (some ⟨N,0,none⟩)))(h7:tmps[7]? =some (.int .i64 k))(h8:tmps[8]? =some (.int .i64 z))(q0:W.heap[N]? =some (aq t))(hF:R (.returned (.tuple #[aZ t,.int .i64 k,.int .i64 z])) W):
  bodyPost prog Tryz.f65 R Exit.ret { tmps:=tmps,defers:=[] } W:=by
 obtain⟨m0,m1,m2,m3,m4,m5,m6,m7⟩:=ai q0
 refine bodyPost_ret (v:=.tuple #[aZ t,.int .i64 k,.int .i64 z]) ?_ rfl hF
 simp[results,results65,go_sem,h6,h7,h8,m0,m1,m2,m3,m4,m5,m6,m7,aZ]
def I8(l:List Int)(R:RT)(w:World)(e:Ending)(w':World):Prop:=
 (∃t k,R=.ok (t,k)/\e=.returned (.tuple #[aZ t,.int .i64 (k:Nat),.int .i64 0])/\k<=l.length/\Below w.heap.size w w')\/
 (∃z,R=.error z/\e=.returned (.tuple #[aZ {},.int .i64 0,.int .i64 z])/\Below w.heap.size w w')
theorem im(d a:Int)(v:Value)(l:List Int)(w:World)(h:bJ w v l):Calls prog 65 #[.int .i64 d,v,.int .i64 a] w fun e w'=>I8 l (fx d l a) w e w':=by
 have hb0:Below w.heap.size w (w.alloc (aq {})):=(J _ w).alloc (U _) _
 have HC:=I (fU d v l _ (h.below hb0))
 obtain⟨ao,c,hv⟩:=h.shape
 by_cases hz:cq d l=0
 ·obtain ⟨hd,hsm,hpts⟩:=oW hz
  rw[hz]at HC
  by_cases ha:a<0
  ·have hE:Hid (fx d l a=.error 3):=by show _=_;unfold fx;rw[if_neg (by simp[hz]),if_pos (Or.inl ha)]
   simp only[aq]at HC
   have HB:=I hb0
   rw[hv]at HC |-
   clear h hv hz hpts hb0
   go_enter func65,ntmps65
   go_wp2_with fail
   refine HC.o.mono ?_
   rintro e w' ⟨rfl,rfl⟩
   go_wp21
   go_wp21
   exact kj (N:=w.heap.size) (t:={}) rfl rfl rfl (aj _ _) (.inr ⟨3,hE.o,rfl,HB.o⟩)
  ·by_cases hb:(l.length:Int)<=a
   ·have hE:Hid (fx d l a=.error 3):=by show _=_;unfold fx;rw[if_neg (by simp[hz]),if_pos (Or.inr hb)]
    simp only[aq]at HC
    have HB:=I hb0
    rw[hv]at HC |-
    clear h hv hz hpts hb0
    go_enter func65,ntmps65
    go_wp2_with fail
    refine HC.o.mono ?_
    rintro e w' ⟨rfl,rfl⟩
    go_wp21
    go_wp21
    exact kj (N:=w.heap.size) (t:={}) rfl rfl rfl (aj _ _) (.inr ⟨3,hE.o,rfl,HB.o⟩)
   ·obtain ⟨i,rfl⟩:∃i:Nat,a=i:=⟨a.toNat,by omega⟩
    have hi:i<l.length:=by omega
    obtain⟨x,cx,hx,hcap,hrd⟩:=h.some (by omega)
    have hE:Hid (fx d l (i:Int)=aQ d l i):=by show _=_;unfold fx;rw[if_neg (by simp[hz]),if_neg (by omega)];simp
    have HR:=I (qQ d x cx l i _ ⟨hrd.below hb0,hcap,hsm,hpts⟩ hi)
    have hli:¬((l.length:Int)<=(i:Int)):=by omega
    have hli2:(i:Int)<(l.length:Int):=by omega
    simp only[aq]at HC HR
    have HB:=I hb0
    rw[hx]at HC |-
    clear h hv hz hpts hb0 hrd hx ha hb
    go_enter func65,ntmps65
    go_wp2_with fail
    refine HC.o.mono ?_
    rintro e w' ⟨rfl,rfl⟩
    go_wp2_with fail
    refine HR.o.mono ?_
    rintro e w2 (⟨t,k,hR,rfl,hkl,hb2⟩|⟨z,hR,rfl,hb2⟩)
    ·have hN:w2.heap[w.heap.size]? =some (aq {}):=by rw[hb2.block _ (by simp)];exact aj _ _
     obtain⟨m0,m1,m2,m3,m4,m5,m6,m7⟩:=ai hN
     have fr0:=au hN
     have HE:=I (hE.o.trans hR)
     have HKL:=I hkl
     have HB2:=I (HB.o.trans (hb2.mono HB.o.size))
     clear hb2 hR hE hkl
     simp only[aZ]
     go_wp21
     exact kj (N:=w.heap.size) (t:=t) rfl rfl rfl (aI hN t) (.inl ⟨t,k,HE.o,rfl,HKL.o,dh HB2.o (U _) _ _ _ _ _ _ _ _⟩)
    ·have hN:w2.heap[w.heap.size]? =some (aq {}):=by rw[hb2.block _ (by simp)];exact aj _ _
     obtain⟨m0,m1,m2,m3,m4,m5,m6,m7⟩:=ai hN
     have fr0:=au hN
     have HE:=I (hE.o.trans hR)
     have HB2:=I (HB.o.trans (hb2.mono HB.o.size))
     clear hb2 hR hE
     simp only[aZ]
     go_wp21
     exact kj (N:=w.heap.size) (t:={}) rfl rfl rfl (aI hN {}) (.inr ⟨z,HE.o,rfl,dh HB2.o (U _) _ _ _ _ _ _ _ _⟩)
 ·have hE:Hid (fx d l a=.error (cq d l)):=by show _=_;unfold fx;rw[if_pos hz]
  simp only[aq]at HC
  have HB:=I hb0
  obtain⟨z,hzz⟩:∃z,z=cq d l:=⟨_,rfl⟩
  rw[<- hzz]at HC hE hz
  rw[hv]at HC |-
  have hzb:(z !=0)=true:=by simpa using hz
  clear h hv hb0 hzz hz
  go_enter func65,ntmps65
  go_wp2_with fail
  refine HC.o.mono ?_
  rintro e w' ⟨rfl,rfl⟩
  go_wp21
  go_wp21
  exact kj (N:=w.heap.size) (t:={}) rfl rfl rfl (aj _ _) (.inr ⟨z,hE.o,rfl,HB.o⟩)
end Go.Proofs.YtklbbbldalmnbaaGreatDoor.TK
