import Derived.Test.YtfnndcbjklppeaaGreatDoorUA2
import Derived.Deep.Cut
set_option linter.unusedVariables false
set_option maxHeartbeats 4000000
set_option maxRecDepth 100000
open Go.Proofs.Tryz
namespace Go.Proofs.YtfnndcbjklppeaaGreatDoor
open Go.RowKit
theorem at_new'(w:World)(o:Obj){k:Nat}(h:k=w.heap.size):(w.alloc o).heap[k]? =some o:=by rw[h];exact heap_alloc_new w o
theorem at_new(w:World)(o:Obj):(w.alloc o).heap[w.heap.size]? =some o:=heap_alloc_new w o
theorem lt_of_block{w:World}{g:Nat}{o:Obj}(h:w.heap[g]? =some o):g<w.heap.size:=(Array.getElem?_eq_some_iff.1 h).1
theorem at_old{w:World}{o o':Obj}{k:Nat}(h:w.heap[k]? =some o):(w.alloc o').heap[k]? =some o:=by rw[Below.heap_alloc _ _ _ (lt_of_block h)];exact h
inductive Tr where
 |mk (kind num least most way:Int) (fold:Bool) (set:RL) (kids:List Tr)
def Tr.kind:Tr→Int| .mk k _ _ _ _ _ _ _=>k
def Tr.num:Tr→Int| .mk _ k _ _ _ _ _ _=>k
def Tr.least:Tr→Int| .mk _ _ k _ _ _ _ _=>k
def Tr.most:Tr→Int| .mk _ _ _ k _ _ _ _=>k
def Tr.way:Tr→Int| .mk _ _ _ _ k _ _ _=>k
def Tr.fold:Tr→Bool| .mk _ _ _ _ _ k _ _=>k
def Tr.set:Tr→RL| .mk _ _ _ _ _ _ k _=>k
def Tr.kids:Tr→List Tr| .mk _ _ _ _ _ _ _ k=>k
structure NV where
 kind:Int
 sa:Option Addr
 sl:Nat
 sc:Nat
 ka:Option Addr
 kl:Nat
 kc:Nat
 num:Int
 least:Int
 most:Int
 way:Int
 fold:Bool
abbrev nvV(n:NV):Value:=.agg #[.int .i64 n.kind,.slice n.sa n.sl n.sc,.slice n.ka n.kl n.kc,.int .i64 n.num,.int .i64 n.least,.int .i64 n.most,.int .i64 n.way,.bool n.fold]
abbrev nvO(n:NV):Obj:=.cells #[.int .i64 n.kind,.slice n.sa n.sl n.sc,.slice n.ka n.kl n.kc,.int .i64 n.num,.int .i64 n.least,.int .i64 n.most,.int .i64 n.way,.bool n.fold] 32
structure NCells(w:World)(a:Addr)(n:NV):Prop where
 c0:w.cell? a=some (.int .i64 n.kind)
 c1:w.cell? ⟨a.block,a.off+1,none⟩=some (.slice n.sa n.sl n.sc)
 c2:w.cell? ⟨a.block,a.off+2,none⟩=some (.slice n.ka n.kl n.kc)
 c3:w.cell? ⟨a.block,a.off+3,none⟩=some (.int .i64 n.num)
 c4:w.cell? ⟨a.block,a.off+4,none⟩=some (.int .i64 n.least)
 c5:w.cell? ⟨a.block,a.off+5,none⟩=some (.int .i64 n.most)
 c6:w.cell? ⟨a.block,a.off+6,none⟩=some (.int .i64 n.way)
 c7:w.cell? ⟨a.block,a.off+7,none⟩=some (.bool n.fold)
def KidsC(w:World)(ka:Option Addr)(kl kc:Nat)(len:Nat)(vs:Nat→NV):Prop:=
 (ka=none∧kl=0∧kc=0∧len=0)∨∃x,ka=some x∧kl=len∧(len≤kc∧kc≤9223372036854775807)∧∀j,j<len→NCells w (x.add (j*8)) (vs j)
inductive NodeC(w:World):NV→Tr→Prop
 |mk (n:NV) (set:RL) (kids:List Tr) (vs:Nat→NV) (hs:Reads w (.slice n.sa n.sl n.sc) set) (hk:KidsC w n.ka n.kl n.kc kids.length vs) (h:∀j (hj:j<kids.length),NodeC w (vs j) kids[j]):NodeC w n (.mk n.kind n.num n.least n.most n.way n.fold set kids)
theorem NCells.below{w w':World}{a:Addr}{n:NV}(h:NCells w a n)(hb:Below w.heap.size w w'):NCells w' a n:=
 ⟨below_cell hb (lt_of_cell h.c0) h.c0,below_cell hb (lt_of_cell h.c1) h.c1,below_cell hb (lt_of_cell h.c2) h.c2,below_cell hb (lt_of_cell h.c3) h.c3,below_cell hb (lt_of_cell h.c4) h.c4,below_cell hb (lt_of_cell h.c5) h.c5,below_cell hb (lt_of_cell h.c6) h.c6,below_cell hb (lt_of_cell h.c7) h.c7⟩
theorem KidsC.below{w w':World}{ka:Option Addr}{kl kc len:Nat}{vs:Nat→NV}(h:KidsC w ka kl kc len vs)(hb:Below w.heap.size w w'):KidsC w' ka kl kc len vs:=by
 rcases h with h|⟨x,h1,h2,hm,h3⟩
 ·exact .inl h
 ·exact .inr ⟨x,h1,h2,hm,fun j hj=>(h3 j hj).below hb⟩
theorem NodeC.keep{w w':World}{n:NV}{t:Tr}(h:NodeC w n t)(hb:Below w.heap.size w w'):NodeC w' n t:=by
 induction h with
 |mk n set kids vs hs hk h ih=>exact .mk n set kids vs (hs.below hb) (hk.below hb) ih
theorem KidsC.len{w:World}{ka:Option Addr}{kl kc len:Nat}{vs:Nat→NV}(h:KidsC w ka kl kc len vs):kl=len:=by
 rcases h with⟨_,h1,_,h2⟩|⟨x,h1,h2,_,h3⟩
 ·omega
 ·exact h2
theorem NodeC.open{w:World}{n:NV}{t:Tr}(h:NodeC w n t):t.kind=n.kind∧t.num=n.num∧t.least=n.least∧t.most=n.most∧t.way=n.way∧t.fold=n.fold∧Reads w (.slice n.sa n.sl n.sc) t.set∧∃vs,KidsC w n.ka n.kl n.kc t.kids.length vs∧∀j (hj:j<t.kids.length),NodeC w (vs j) t.kids[j]:=by
 cases h with
 |mk _ set kids vs hs hk h=>exact⟨rfl,rfl,rfl,rfl,rfl,rfl,hs,vs,hk,h⟩
theorem nv_cells{w:World}{k:Nat}{n:NV}(h:w.heap[k]? =some (nvO n)):NCells w ⟨k,0,none⟩ n:=by
 refine⟨?_,?_,?_,?_,?_,?_,?_,?_⟩<;>simp[World.cell?,h]
structure Tok where
 kind:Int:=0
 num:Int:=0
 text:ByteArray:=⟨#[]⟩
 neg:Bool:=false
 least:Int:=0
 most:Int:=0
 way:Int:=0
 fold:Int:=0
def pointT(p:Int):Tok:={ kind:=1,num:=p }
def tokV(t:Tok):Value:=.agg #[.int .i64 t.kind,.int .i64 t.num,.string t.text,.bool t.neg,.int .i64 t.least,.int .i64 t.most,.int .i64 t.way,.int .i64 t.fold]
def ReadsI(w:World)(x:Addr)(l:List Int):Prop:=∀j (h:j<l.length),w.cell? (x.add j)=some (.int .i64 l[j])
theorem ReadsI.below{w w':World}{x:Addr}{l:List Int}(h:ReadsI w x l)(hb:Below w.heap.size w w'):ReadsI w' x l:=fun j hj=>below_cell hb (lt_of_cell (h j hj)) (h j hj)
def ptA(l:List Int)(i:Nat):Int:=(l[i]?).getD (-1)
theorem ptA_in{l:List Int}{i:Nat}(h:i<l.length):ptA l i=l[i]:=by simp[ptA,h]
theorem ptA_out{l:List Int}{i:Nat}(h:¬i<l.length):ptA l i= -1:=by simp[ptA,List.getElem?_eq_none (Nat.le_of_not_lt h)]
theorem pointAt_any(x:Addr)(c:Nat)(l:List Int)(i:Nat)(w:World)(h:ReadsI w x l):Calls prog 113 #[.slice (some x) l.length c,.int .i64 i] w fun e w'=>e=.returned (.int .i64 (ptA l i))∧w'=w:=by
 by_cases hi:i<l.length
 ·have hc:=h i hi
  rw[ptA_in hi]
  obtain⟨p,hp⟩:=named (l[i])
  obtain⟨n,hn⟩:=named l.length
  rw[← hp]at hc ⊢
  rw[← hn]at hi ⊢
  clear h hp hn
  have e1:(i:Int)<(n:Int):=by omega
  have e0:(0:Int)≤(i:Int):=by omega
  go_enter func113,ntmps113
  go_wp2
  go_ret
  exact⟨rfl,rfl⟩
 ·rw [ptA_out hi]
  obtain⟨n,hn⟩:=named l.length
  rw[← hn]at hi ⊢
  clear h hn
  have e1:¬(i:Int)<(n:Int):=by omega
  have e0:(0:Int)≤(i:Int):=by omega
  go_enter func113,ntmps113
  go_wp2
  go_ret
  exact⟨rfl,rfl⟩
theorem ptok_any(p:Int)(w:World):Calls prog 127 #[.int .i64 p] w fun e w'=>e=.returned (tokV (pointT p))∧Below w.heap.size w w':=by
 go_enter func127,ntmps127
 go_wp2
 exact bodyPost_ret (v:=tokV (pointT p)) (by simp[results,results127,go_sem,tokV,pointT]) rfl ⟨rfl,allocB _ _⟩
theorem byte_at(u:UInt8):wrap64 (((⟨#[u]⟩:ByteArray)[0]'(by show 0<1;omega)).toNat:Int)=(u.toNat:Int):=by
 have h:=u.toNat_lt
 show wrap64 (u.toNat:Int)=_
 unfold wrap64
 omega
theorem says1_any(x:Addr)(c:Nat)(l:List Int)(i:Nat)(u:UInt8)(w:World)(h:ReadsI w x l)(hi:i≤1000)(hl:l.length≤1000):Calls prog 122 #[.slice (some x) l.length c,.int .i64 i,.string ⟨#[u]⟩] w fun e w'=>e=.returned (.bool (decide (ptA l i=(u.toNat:Int))))∧∃q,w'=w.drewN q:=by
 have HP:=hide (fun q=>pointAt_any x c l i (w.drewN q) h)
 obtain⟨p,hp⟩:=named (ptA l i)
 obtain⟨n,hn⟩:=named l.length
 rw[← hp]at HP ⊢
 rw[← hn]at HP ⊢
 clear h hp hn hl
 have wi2:IntKind.i64.wrap (i:Int)=(i:Int):=by rw[IntKind.wrap_i64];omega
 have wi:IntKind.i64.wrap ((i:Int)+0)=(i:Int):=by rw[IntKind.wrap_i64];omega
 go_enter func122,ntmps122
 go_wp2
 go_loopw [7] (fun v wr=>(v=.int .i64 0∧wr=w)∨(v=.int .i64 1∧p=(u.toNat:Int)∧∃q,wr=w.drewN q)) (fun v _=>1 - (intOf v).toNat)
 case atStart=>exact .inl ⟨rfl,rfl⟩
 case round=>
  rcases hrel with⟨rfl,rfl⟩|⟨rfl,he,q,rfl⟩
  ·by_cases hpu:p=(u.toNat:Int)
   ·have hb:(p !=wrap64 (((⟨#[u]⟩:ByteArray)[0]'(by show 0<1;omega)).toNat:Int))=false:=by rw[byte_at];simpa using hpu
    have HE:=hide hpu
    clear hpu
    go_wp2
    go_quiet (first|(go_at_call 113;refine Calls.quiet_of_same (HP.out _)))
    go_wp2
    go_roundw
    case rel=>exact .inr ⟨by go_num,HE.out,_,rfl⟩
    case measure=>simp[intOf]
   ·have hb:(p !=wrap64 (((⟨#[u]⟩:ByteArray)[0]'(by show 0<1;omega)).toNat:Int))=true:=by rw[byte_at];simpa using hpu
    have HE:=hide hpu
    clear hpu
    go_wp2
    go_quiet (first|(go_at_call 113;refine Calls.quiet_of_same (HP.out _)))
    go_wp2
    go_ret
    exact⟨ret_bool (by have:=HE.out;simpa using this),_,rfl⟩
  ·have HE:=hide he
   clear he
   go_wp2
   go_ret
   exact⟨ret_bool (by have:=HE.out;simpa using this),q,rfl⟩
def tokO(t:Tok):Obj:=.cells #[.int .i64 t.kind,.int .i64 t.num,.string t.text,.bool t.neg,.int .i64 t.least,.int .i64 t.most,.int .i64 t.way,.int .i64 t.fold] 112 (0,0)
theorem tok_cells{w:World}{k:Nat}{t:Tok}(h:w.heap[k]? =some (tokO t)):
  w.cell? ⟨k,0,none⟩=some (.int .i64 t.kind)∧w.cell? ⟨k,1,none⟩=some (.int .i64 t.num)∧w.cell? ⟨k,2,none⟩=some (.string t.text)∧w.cell? ⟨k,3,none⟩=some (.bool t.neg)∧w.cell? ⟨k,4,none⟩=some (.int .i64 t.least)∧w.cell? ⟨k,5,none⟩=some (.int .i64 t.most)∧w.cell? ⟨k,6,none⟩=some (.int .i64 t.way)∧w.cell? ⟨k,7,none⟩=some (.int .i64 t.fold):=by
 unfold tokO at h
 refine⟨?_,?_,?_,?_,?_,?_,?_,?_⟩<;>simp[World.cell?,h]
theorem tok_free{w:World}{k:Nat}{t:Tok}(h:w.heap[k]? =some (tokO t))(o:Nat):w.frozen? ⟨k,o,none⟩=false:=by
 unfold tokO at h
 simp[World.frozen?,h]
theorem set_oneQ{w:World}{N:Nat}{cs:Array Value}{e:TypeId}{fr:Nat×Nat}(h:w.heap[N]? =some (.cells cs e fr))(o:Nat)(v:Value):(w.setCell ⟨N,o,none⟩ v).heap[N]? =some (.cells (cs.setIfInBounds o v) e fr):=by
 have hlt:=lt_of_block h
 have h':w.heap[N]=.cells cs e fr:=by simpa[Array.getElem?_eq_getElem hlt]using h
 show(w.heap.modify N _)[N]? =_
 rw[Array.getElem?_eq_getElem (by simpa using hlt),Array.getElem_modify_self,h']
 rfl
theorem tok_set{w:World}{N:Nat}{t0:Tok}(h:w.heap[N]? =some (tokO t0))(t:Tok):
  ((((((((w.setCell ⟨N,0,none⟩ (.int .i64 t.kind)).setCell ⟨N,1,none⟩ (.int .i64 t.num)).setCell ⟨N,2,none⟩ (.string t.text)).setCell ⟨N,3,none⟩ (.bool t.neg)).setCell ⟨N,4,none⟩ (.int .i64 t.least)).setCell ⟨N,5,none⟩ (.int .i64 t.most)).setCell ⟨N,6,none⟩ (.int .i64 t.way)).setCell ⟨N,7,none⟩ (.int .i64 t.fold)).heap[N]? =some (tokO t):=by
 unfold tokO at h
 rw[set_oneQ (set_oneQ (set_oneQ (set_oneQ (set_oneQ (set_oneQ (set_oneQ (set_oneQ h _ _) _ _) _ _) _ _) _ _) _ _) _ _) _ _]
 simp[tokO]
theorem below_tok{B:Nat}{w w1:World}(h:Below B w w1){k:Nat}(hk:B≤k)(v0 v1 v2 v3 v4 v5 v6 v7:Value):
  Below B w ((((((((w1.setCell ⟨k,0,none⟩ v0).setCell ⟨k,1,none⟩ v1).setCell ⟨k,2,none⟩ v2).setCell ⟨k,3,none⟩ v3).setCell ⟨k,4,none⟩ v4).setCell ⟨k,5,none⟩ v5).setCell ⟨k,6,none⟩ v6).setCell ⟨k,7,none⟩ v7):=
 (((((((h.setCell (p:=⟨k,0,none⟩) hk v0).setCell (p:=⟨k,1,none⟩) hk v1).setCell (p:=⟨k,2,none⟩) hk v2).setCell (p:=⟨k,3,none⟩) hk v3).setCell (p:=⟨k,4,none⟩) hk v4).setCell (p:=⟨k,5,none⟩) hk v5).setCell (p:=⟨k,6,none⟩) hk v6).setCell (p:=⟨k,7,none⟩) hk v7
abbrev tset(W:World)(N:Nat)(t:Tok):World:=((((((((W.setCell ⟨N,0,none⟩ (.int .i64 t.kind)).setCell ⟨N,1,none⟩ (.int .i64 t.num)).setCell ⟨N,2,none⟩ (.string t.text)).setCell ⟨N,3,none⟩ (.bool t.neg)).setCell ⟨N,4,none⟩ (.int .i64 t.least)).setCell ⟨N,5,none⟩ (.int .i64 t.most)).setCell ⟨N,6,none⟩ (.int .i64 t.way)).setCell ⟨N,7,none⟩ (.int .i64 t.fold))
theorem tset_below{B:Nat}{w W:World}(h:Below B w W){k:Nat}(hk:B≤k)(t:Tok):Below B w (tset W k t):=below_tok h hk _ _ _ _ _ _ _ _
theorem ret_t1{f:Func}{tmps:Array Value}{W:World}{N s a:Nat}{t0 t:Tok}{k:Int}{R:Ending→World→Prop}(hres:f.results=#[ResultVar.cell s 112,ResultVar.tmp a])(h6:tmps[s]? =some (.pointer (some ⟨N,0,none⟩)))(h7:tmps[a]? =some (.int .i64 k))(q0:W.heap[N]? =some (tokO t0))(hF:R (.returned (.tuple #[tokV t,.int .i64 k])) (tset W N t)):
  bodyPost prog f R Exit.ret { tmps:=tmps,defers:=[] } (tset W N t):=by
 obtain⟨m0,m1,m2,m3,m4,m5,m6,m7⟩:=tok_cells (tok_set q0 t)
 refine bodyPost_ret (v:=.tuple #[tokV t,.int .i64 k]) ?_ rfl hF
 simp[results,hres,go_sem,h6,h7,m0,m1,m2,m3,m4,m5,m6,m7,tokV]
theorem ret_t2{f:Func}{tmps:Array Value}{W:World}{N s a b:Nat}{t0 t:Tok}{k z:Int}{R:Ending→World→Prop}(hres:f.results=#[ResultVar.cell s 112,ResultVar.tmp a,ResultVar.tmp b])(h6:tmps[s]? =some (.pointer (some ⟨N,0,none⟩)))(h7:tmps[a]? =some (.int .i64 k))(h8:tmps[b]? =some (.int .i64 z))(q0:W.heap[N]? =some (tokO t0))(hF:R (.returned (.tuple #[tokV t,.int .i64 k,.int .i64 z])) (tset W N t)):
  bodyPost prog f R Exit.ret { tmps:=tmps,defers:=[] } (tset W N t):=by
 obtain⟨m0,m1,m2,m3,m4,m5,m6,m7⟩:=tok_cells (tok_set q0 t)
 refine bodyPost_ret (v:=.tuple #[tokV t,.int .i64 k,.int .i64 z]) ?_ rfl hF
 simp[results,hres,go_sem,h6,h7,h8,m0,m1,m2,m3,m4,m5,m6,m7,tokV]
theorem below_at{w w':World}(h:Below w.heap.size w w'){k:Nat}{o:Obj}(hk:w.heap[k]? =some o):w'.heap[k]? =some o:=by rw[h.block k (lt_of_block hk)];exact hk
theorem drew_below{w w':World}{q:Nat}(h:w'=w.drewN q):Below w.heap.size w w':=by rw[h];exact⟨rfl,rfl,rfl,leR _,fun _ _=>rfl⟩
theorem two_below(w:World)(o o':Obj):Below w.heap.size w ((w.alloc o).alloc o'):=((belR _ w).alloc (leR _) o).alloc (by simp) o'
def leastF(n:Int):Int:=if n<1000000 then n else 1000000
def mostF(n:Int):Int:=if 1000000<n then -1 else n
def addM(a b:Int):Int:=if a<0∨b<0 then -1 else mostF (a+b)
def maxM(a b:Int):Int:=if a<0∨b<0 then -1 else if a<b then b else a
def timM(a b:Int):Int:=if a=0∨b=0 then 0 else if a<0∨b<0 then -1 else mostF (a*b)
theorem leastTaken_any(p:Int)(w:World):Calls prog 144 #[.int .i64 p] w fun e w'=>e=.returned (.int .i64 (leastF p))∧w=w':=by
 by_cases h:p<1000000
 ·have hE:Hid (leastF p=p):=by show _=_;unfold leastF;rw[if_pos h]
  have h2:¬(1000000:Int)≤p:=by omega
  go_enter func144,ntmps144
  go_wp2
  go_ret
  exact⟨ret_int (by rw[hE.out]),rfl⟩
 ·have hE:Hid (leastF p=1000000):=by show _=_;unfold leastF;rw[if_neg h]
  have h2:(1000000:Int)≤p:=by omega
  go_enter func144,ntmps144
  go_wp2
  all_goals go_ret
  all_goals exact⟨ret_int (by first|(rw[hE.out];done)|(rw[hE.out];omega)),rfl⟩
theorem mostTaken_any(p:Int)(w:World):Calls prog 170 #[.int .i64 p] w fun e w'=>e=.returned (.int .i64 (mostF p))∧w=w':=by
 by_cases h:1000000<p
 ·have hE:Hid (mostF p= -1):=by show _=_;unfold mostF;rw[if_pos h]
  go_enter func170,ntmps170
  go_wp2
  go_ret
  exact⟨ret_int (by rw[hE.out]),rfl⟩
 ·have hE:Hid (mostF p=p):=by show _=_;unfold mostF;rw[if_neg h]
  go_enter func170,ntmps170
  go_wp2
  go_ret
  exact⟨ret_int (by rw[hE.out]),rfl⟩
theorem mostAdded_any(a b:Int)(w:World)(ha:a≤1000000)(hb:b≤1000000):Calls prog 145 #[.int .i64 a,.int .i64 b] w fun e w'=>e=.returned (.int .i64 (addM a b))∧w=w':=by
 by_cases h1:a<0
 ·have hE:Hid (addM a b= -1):=by show _=_;unfold addM;rw[if_pos (.inl h1)]
  go_enter func145,ntmps145
  go_wp2
  go_ret
  exact⟨ret_int (by rw[hE.out]),rfl⟩
 ·by_cases h2:b<0
  ·have hE:Hid (addM a b= -1):=by show _=_;unfold addM;rw[if_pos (.inr h2)]
   go_enter func145,ntmps145
   go_wp2
   go_ret
   exact⟨ret_int (by rw[hE.out]),rfl⟩
  ·have hE:Hid (addM a b=mostF (a+b)):=by show _=_;unfold addM;rw[if_neg (by omega)]
   have hw:IntKind.i64.wrap (a+b)=a+b:=by rw[IntKind.wrap_i64];omega
   have HM:=hide (mostTaken_any (a+b) w)
   go_enter func145,ntmps145
   go_wp2_with fail
   refine HM.out.mono ?_
   rintro e w' ⟨rfl,rfl⟩
   go_wp2
   go_ret
   exact⟨ret_int (by rw[hE.out]),rfl⟩
theorem greaterMost_any(a b:Int)(w:World):Calls prog 146 #[.int .i64 a,.int .i64 b] w fun e w'=>e=.returned (.int .i64 (maxM a b))∧w=w':=by
 by_cases h1:a<0
 ·have hE:Hid (maxM a b= -1):=by show _=_;unfold maxM;rw[if_pos (.inl h1)]
  go_enter func146,ntmps146
  go_wp2
  go_ret
  exact⟨ret_int (by rw[hE.out]),rfl⟩
 ·by_cases h2:b<0
  ·have hE:Hid (maxM a b= -1):=by show _=_;unfold maxM;rw[if_pos (.inr h2)]
   go_enter func146,ntmps146
   go_wp2
   go_ret
   exact⟨ret_int (by rw[hE.out]),rfl⟩
  ·by_cases h3:a<b
   ·have hE:Hid (maxM a b=b):=by show _=_;unfold maxM;rw[if_neg (by omega),if_pos h3]
    have h4:¬b≤a:=by omega
    go_enter func146,ntmps146
    go_wp2
    go_ret
    exact⟨ret_int (by rw[hE.out]),rfl⟩
   ·have hE:Hid (maxM a b=a):=by show _=_;unfold maxM;rw[if_neg (by omega),if_neg h3]
    have h4:b≤a:=by omega
    go_enter func146,ntmps146
    go_wp2
    go_ret
    exact⟨ret_int (by rw[hE.out]),rfl⟩
theorem mul_small{a b:Int}(h0:0≤a)(ha:a≤1000000)(h1:0≤b)(hb:b≤100):0≤a*b∧a*b≤100000000:=
 ⟨Int.mul_nonneg h0 h1,Int.le_trans (Int.mul_le_mul ha hb h1 (by omega)) (by omega)⟩
theorem mostTimes_any(a b:Int)(w:World)(ha:a≤1000000)(hb:b≤100):Calls prog 147 #[.int .i64 a,.int .i64 b] w fun e w'=>e=.returned (.int .i64 (timM a b))∧w=w':=by
 by_cases h0:a=0
 ·have hE:Hid (timM a b=0):=by show _=_;unfold timM;rw[if_pos (.inl h0)]
  have hx:(a==0)=true:=by simpa using h0
  clear h0 ha hb
  go_enter func147,ntmps147
  go_wp2
  go_ret
  exact⟨ret_int (by rw[hE.out]),rfl⟩
 ·have hx:(a==0)=false:=by simpa using h0
  by_cases h9:b=0
  ·have hE:Hid (timM a b=0):=by show _=_;unfold timM;rw[if_pos (.inr h9)]
   have hy:(b==0)=true:=by simpa using h9
   clear h0 ha hb h9
   go_enter func147,ntmps147
   go_wp2
   go_ret
   exact⟨ret_int (by rw[hE.out]),rfl⟩
  ·have hy:(b==0)=false:=by simpa using h9
   by_cases h1:a<0
   ·have hE:Hid (timM a b= -1):=by show _=_;unfold timM;rw[if_neg (by omega),if_pos (.inl h1)]
    clear h0 h9 ha hb
    go_enter func147,ntmps147
    go_wp2
    go_ret
    exact⟨ret_int (by rw[hE.out]),rfl⟩
   ·by_cases h2:b<0
    ·have hE:Hid (timM a b= -1):=by show _=_;unfold timM;rw[if_neg (by omega),if_pos (.inr h2)]
     clear h0 h9 ha hb
     go_enter func147,ntmps147
     go_wp2
     go_ret
     exact⟨ret_int (by rw[hE.out]),rfl⟩
    ·have hE:Hid (timM a b=mostF (a*b)):=by show _=_;unfold timM;rw[if_neg (by omega),if_neg (by omega)]
     have hm:=mul_small (by omega) ha (by omega) hb
     have hw:IntKind.i64.wrap (a*b)=a*b:=by rw[IntKind.wrap_i64];omega
     have HM:=hide (mostTaken_any (a*b) w)
     clear h0 h9 ha hb hm
     go_enter func147,ntmps147
     go_wp2_with fail
     refine HM.out.mono ?_
     rintro e w' ⟨rfl,rfl⟩
     go_wp2
     go_ret
     exact⟨ret_int (by rw[hE.out]),rfl⟩
theorem adde0(x:Addr){k:Nat}(hk:k≠0):x.add k=⟨x.block,x.off+k,none⟩:=by unfold Addr.add;rw[if_neg hk]
theorem addz0(x:Addr):x.add 0=x:=by unfold Addr.add;split<;>simp_all
def abL:List Int:=[97,43,98]
abbrev lsO(x:Addr)(c:Nat):Obj:=.cells #[.slice (some x) 3 c] 44
abbrev inO(i:Int):Obj:=.cells #[.int .i64 i] 3
theorem isT_any(x:Addr)(c i k1 k2:Nat)(u:UInt8)(w:World)(h1:w.heap[k1]? =some (lsO x c))(h2:w.heap[k2]? =some (inO i))(hi:i≤1000)(h:ReadsI w x abL):Calls prog 121 #[.string ⟨#[u]⟩,.pointer (some ⟨k1,0,none⟩),.pointer (some ⟨k2,0,none⟩)] w fun e w'=>e=.returned (.bool (decide (ptA abL i=(u.toNat:Int))))∧Below w.heap.size w w':=by
 have c1:w.cell? ⟨k1,0,none⟩=some (.slice (some x) 3 c):=by simp[World.cell?,h1]
 have c2:w.cell? ⟨k2,0,none⟩=some (.int .i64 i):=by simp[World.cell?,h2]
 have HC:=hide (says1_any x c abL i u w h hi (by decide))
 obtain⟨b,hb⟩:=named (decide (ptA abL i=(u.toNat:Int)))
 rw[← hb]at HC ⊢
 clear h1 h2 hi h hb
 go_enter func121,ntmps121
 go_wp2_with fail
 refine HC.out.mono ?_
 rintro e w1 ⟨rfl,q,rfl⟩
 go_wp2
 go_ret
 exact⟨rfl,below_drewN (belR _ _) _⟩
def repT:Tok:={ kind:=6,least:=1,most:= -1,way:=1 }
theorem repeat_ab(x:Addr)(c:Nat)(w:World)(h:ReadsI w x abL):Calls prog 123 #[.int .i64 1,.slice (some x) 3 c,.int .i64 2,.int .i64 1,.int .i64 (-1)] w fun e w'=>e=.returned (.tuple #[tokV repT,.int .i64 2])∧Below w.heap.size w w':=by
 have HC1:Hid (∀W,Below w.heap.size w W→Calls prog 122 #[.slice (some x) 3 c,.int .i64 2,.string ⟨#[63]⟩] W fun e w'=>e=.returned (.bool false)∧∃q,w'=W.drewN q):=fun W hW=>says1_any x c abL 2 63 W (h.below hW) (by decide) (by decide)
 have HC2:Hid (∀W,Below w.heap.size w W→Calls prog 122 #[.slice (some x) 3 c,.int .i64 2,.string ⟨#[43]⟩] W fun e w'=>e=.returned (.bool false)∧∃q,w'=W.drewN q):=fun W hW=>says1_any x c abL 2 43 W (h.below hW) (by decide) (by decide)
 have HB2:=hide (two_below w (tokO {}) (tokO repT))
 clear h
 go_enter func123,ntmps123
 go_wp2_with fail
 refine(HC1.out ((w.alloc (tokO {})).alloc (tokO repT)) HB2.out).mono ?_
 rintro e w1 ⟨rfl,q,hq⟩
 have hb1:=drew_below hq
 have HB:=hide (HB2.out.andT hb1)
 have HN0:Hid (w1.heap[w.heap.size]? =some (tokO {})):=below_at hb1 (at_old (at_new _ _))
 have HM0:Hid (w1.heap[w.heap.size+1]? =some (tokO repT)):=below_at hb1 (at_new' (w.alloc (tokO {})) _ (by simp))
 clear hb1 HC1 hq
 go_wp2_with fail
 refine(HC2.out w1 HB.out).mono ?_
 rintro e w3 ⟨rfl,q2,hq2⟩
 have hb3:=drew_below hq2
 have HBe:=hide (HB.out.andT hb3)
 have hN:=below_at hb3 HN0.out
 have hM:=below_at hb3 HM0.out
 clear hb3 hq2
 obtain⟨n0,n1,n2,n3,n4,n5,n6,n7⟩:=tok_cells hM
 obtain⟨m0,m1,m2,m3,m4,m5,m6,m7⟩:=tok_cells hN
 have fr1:=tok_free hM
 have fr0:=tok_free hN
 have HN:=hide hN
 clear hN hM HB2 HB HN0 HM0 HC2
 simp only[repT]at n0 n1 n2 n3 n4 n5 n6 n7
 go_wp2
 exact ret_t1 (N:=w.heap.size) (t0:={}) (W:=w3) (t:=repT) (k:=2) rfl rfl rfl HN.out ⟨rfl,tset_below HBe.out (leR _) _⟩
end Go.Proofs.YtfnndcbjklppeaaGreatDoor
