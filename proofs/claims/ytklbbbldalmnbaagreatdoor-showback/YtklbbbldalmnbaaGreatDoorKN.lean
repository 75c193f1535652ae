import Derived.Test.YtklbbbldalmnbaaGreatDoorKA
import Derived.Deep.RegionWith
set_option linter.unusedVariables false
set_option maxHeartbeats 1000000
open Go.Proofs.Tryz
namespace Go.Proofs.YtklbbbldalmnbaaGreatDoor.Fo
open Go.RowKit
def aW(w w':World):Prop:=∀(k:Nat) (cs:Array Value),w.heap[k]? =some (.cells cs 3 (0,0))->w'.heap[k]? =some (.cells cs 3 (0,0))
theorem aW.refl(w:World):aW w w:=fun _ _ h=>h
theorem aW.trans{a b c:World}(h:aW a b)(k:aW b c):aW a c:=fun i cs hi=>k i cs (h i cs hi)
theorem aW.below{w w':World}(h:Below w.heap.size w w'):aW w w':=fun i cs hi=>by rw[h.block i (lt_of_block hi)];exact hi
structure eK(F:Nat)(caps:Array Value)(Inv:List (Int×Int)->World->Prop):Prop where
 enters:∀args w,(callFunc F args).run prog w=.ok (.enter F args) w
 take:∀L a b w,L.length<=1000->Inv L w->Calls prog F (#[.int .i64 a,.int .i64 b]++caps) w fun e w'=>e=.returned (.tuple #[])/\Inv (L++[(a,b)]) w'/\w.heap.size<=w'.heap.size/\aW w w'
 below:∀L w w',Inv L w->Below w.heap.size w w'->Inv L w'
def rJ(ps:List (Int×Int)):List Int:=ps.flatMap fun x=>[x.1,x.2]
theorem Bx(ps:List (Int×Int))(k:Nat)(h:k<ps.length):(rJ ps)[2*k]? =some ps[k].1/\(rJ ps)[2*k+1]? =some ps[k].2:=by
 induction ps generalizing k with
 |nil=>simp at h
 |cons x xs ih=>
  match k with
  |0=>simp[rJ]
  |k+1=>
   have:=ih k (by simpa using h)
   have e:rJ (x::xs)=x.1::x.2::rJ xs:=rfl
   rw[e]
   rw[show 2*(k+1)=2*k+1+1 from by omega]
   simpa using this
def iY:List (Int×Int):=[(48,57),(1632,1641)]
def gq:List (Int×Int):=[(33,47),(58,64),(91,96),(123,126)]
def js:List (Int×Int):=[(161,169),(171,180),(182,185),(187,191),(215,215),(247,247)]
def jC:List (Int×Int):=gq++js
def fD:List (Int×Int):=[(65,90),(97,122),(170,170),(181,181),(186,186),(192,214),(216,246),(248,591)]
def iw:List (Int×Int):=[(913,929),(931,974),(1024,1153),(7838,7838),(8490,8491)]
def gY:List (Int×Int):=fD++iw
def lu:List (Int×Int):=gY++iY
def dX(a:Int)(n:Nat):List (Int×Int):=(List.range n).map fun (i:Nat)=>(a+2*(i:Int),a+2*(i:Int))
theorem tF(a:Int)(n:Nat):dX a (n+1)=dX a n++[(a+2*(n:Int),a+2*(n:Int))]:=by
 simp[dX,List.range_succ]
theorem wU(a:Int)(n:Nat):(dX a n).length=n:=by simp[dX]
def EJ:List (Int×Int):=[(0,1114111)]
def tB:ByteArray:=⟨#[97,110,121]⟩
def wu:List (Int×Int):=[(0,127)]
def qM:ByteArray:=⟨#[97,115,99,105,105]⟩
def xv:List (Int×Int):=[(0,31),(127,159)]
def pL:ByteArray:=⟨#[99,110,116,114,108]⟩
def wW:List (Int×Int):=iY
def mL:ByteArray:=⟨#[100,105,103,105,116]⟩
def rQ:List (Int×Int):=[(48,57),(65,70),(97,102)]
def kY:ByteArray:=⟨#[120,100,105,103,105,116]⟩
def vV:List (Int×Int):=[(9,9),(32,32)]
def qa:ByteArray:=⟨#[98,108,97,110,107]⟩
def uR:List (Int×Int):=[(9,13),(32,32),(133,133),(160,160),(8192,8202),(8232,8233),(12288,12288)]
def nC:ByteArray:=⟨#[115,112,97,99,101]⟩
def uP:List (Int×Int):=jC
def qF:ByteArray:=⟨#[112,117,110,99,116]⟩
def da:List (Int×Int):=gY
def qw:ByteArray:=⟨#[97,108,112,104,97]⟩
def vS:List (Int×Int):=[(65,90),(192,214),(216,222)]++dX 256 24++[(913,929),(931,939),(1024,1071),(7838,7838),(8490,8491)]
def qk:ByteArray:=⟨#[117,112,112,101,114]⟩
def uZ:List (Int×Int):=[(97,122),(181,181),(223,246),(248,255)]++dX 257 24++[(945,971),(1072,1119)]
def qv:ByteArray:=⟨#[108,111,119,101,114]⟩
def uY:List (Int×Int):=lu
def qO:ByteArray:=⟨#[97,108,110,117,109]⟩
def An:List (Int×Int):=lu++[(95,95)]
def pb:ByteArray:=⟨#[119,111,114,100]⟩
def xi:List (Int×Int):=lu++jC
def qb:ByteArray:=⟨#[103,114,97,112,104]⟩
theorem gN{caps:Array Value}{Inv:List (Int×Int)->World->Prop}(T:eK 152 caps Inv)(ps:List (Int×Int))(hn:ps.length<=100)(n:Nat)(hnn:n=2*ps.length)(g:Nat)(L:List (Int×Int))(hL:L.length<=800)(w:World)(hI:Inv L w)(hrow:w.heap[g]? =some (.cells (dm (rJ ps)).toArray 3 (0,0))):
  Calls prog 164 #[.func (.func 152) #[] caps,.slice (some ⟨g,0,none⟩) n n] w fun e w'=>e=.returned (.tuple #[])/\Inv (L++ps) w'/\w.heap.size<=w'.heap.size/\aW w w':=by
 have HI:=I hI
 have HR:=I hrow
 have HT:=I T
 have ent:=T.enters
 have HN:=I hnn
 have hn2:n<=200:=by omega
 clear hI hrow T hnn
 go_enter func164,ntmps164
 go_wp2
 go_loopw [4] (fun i wr=>∃k j:Nat,k<=ps.length/\j=2*k/\i=.int .i64 j/\Inv (L++ps.take k) wr/\w.heap.size<=wr.heap.size/\aW w wr) (fun i _=>n - (intOf i).toNat)
 case atStart=>exact⟨0,0,Nat.zero_le _,rfl,rfl,by simpa using HI.o,U _,aW.refl w⟩
 case round=>
  obtain⟨k,j,hk,hj,rfl,hinv,hsz,hk3⟩:=hrel
  have HJ:=I hj
  by_cases hlt:k<ps.length
  ·have hjn:j+1<n:=by have:=HN.o;omega
   have b0:j<n:=by omega
   have b1:(0:Int)<=(j:Int)+1:=by omega
   have b2:(j:Int)+1<(n:Int):=by omega
   have b3:IntKind.i64.wrap ((j:Int)+1)=(j:Int)+1:=by rw[IntKind.wrap_i64];omega
   have hrow:=hk3 _ _ HR.o
   obtain⟨x,hx⟩:∃x,x=ps[k]:=⟨_,rfl⟩
   obtain⟨g1,g2⟩:=Bx ps k hlt
   obtain⟨x1,x2⟩:=x
   have c1:wr.cell? ⟨g,j,none⟩=some (.int .i64 x1):=by rw[hj];simp[World.cell?,hrow,dm,g1, <-hx]
   have c2:wr.cell? ⟨g,j+1,none⟩=some (.int .i64 x2):=by rw[hj];simp[World.cell?,hrow,dm,g2, <-hx]
   have HX:=I hx
   have HV:=I hinv
   have HTK:Hid (∀w1,Below wr.heap.size wr w1->Calls prog 152 (#[.int .i64 x1,.int .i64 x2]++caps) w1 fun e w'=>e=.returned (.tuple #[])/\Hid (Inv (L++ps.take k++[(x1,x2)]) w')/\w1.heap.size<=w'.heap.size/\Hid (aW w1 w')):=fun w1 hb=>HT.o.take (L++ps.take k) x1 x2 w1 (by rw[List.length_append,List.length_take];omega) (HT.o.below _ _ _ HV.o hb)
   clear hx hinv hrow g1 g2 hj
   go_wp2
   go_region_with (go_at_call 152;refine(HTK.o _ (by first|exact J _ _|exact(J _ _).drew|exact(J _ _).drew.drew)).mono ?_;rintro e w1 ⟨rfl,HV1,hsz1,HK1⟩)
   all_goals
    go_wp2
    go_roundw
    case rel=>exact⟨k+1,j+2,by omega,by have:=HJ.o;omega,by go_num,by rw[List.take_add_one,List.getElem?_eq_getElem hlt, <-HX.o, <-List.append_assoc];exact HV1.o,Nat.le_trans hsz hsz1,hk3.trans HK1.o⟩
    case measure=>simp[intOf];omega
  ·have hkl:k=ps.length:=by omega
   subst hkl
   rw[List.take_length]at hinv
   have hjn:n<=j:=by have:=HN.o;omega
   go_wp2
   go_end0
   exact⟨rfl,hinv,hsz,hk3⟩
theorem CP{caps:Array Value}{Inv:List (Int×Int)->World->Prop}(T:eK 152 caps Inv)(a b:Int)(h0:0<=a)(h1:b<=10000)(hb:b=a+46)(L:List (Int×Int))(hL:L.length<=800)(w:World)(hI:Inv L w):
  Calls prog 168 #[.func (.func 152) #[] caps,.int .i64 a,.int .i64 b] w fun e w'=>e=.returned (.tuple #[])/\Inv (L++dX a 24) w'/\w.heap.size<=w'.heap.size/\aW w w':=by
 have HI:=I hI
 have HT:=I T
 have ent:=T.enters
 have hab1:b<a+48:=by omega
 have hab2:a+46<=b:=by omega
 clear hI T hb
 go_enter func168,ntmps168
 go_wp2
 go_loopw [6] (fun i wr=>∃(k:Nat) (j:Int),k<=24/\j=a+2*(k:Int)/\i=.int .i64 j/\Inv (L++dX a k) wr/\w.heap.size<=wr.heap.size/\aW w wr) (fun i _=>(b+2 - intOf i).toNat)
 case atStart=>exact⟨0,a,Nat.zero_le _,by simp,rfl,by simpa[dX]using HI.o,U _,aW.refl w⟩
 case round=>
  obtain⟨k,j,hk,hj,rfl,hinv,hsz,hk3⟩:=hrel
  have HJ:=I hj
  have j0:0<=j:=by omega
  have j1:j<=20000:=by omega
  by_cases hlt:k<24
  ·have hjb:j<=b:=by omega
   have HV:=I hinv
   have HTK:Hid (∀w1,Below wr.heap.size wr w1->Calls prog 152 (#[.int .i64 j,.int .i64 j]++caps) w1 fun e w'=>e=.returned (.tuple #[])/\Hid (Inv (L++dX a k++[(j,j)]) w')/\w1.heap.size<=w'.heap.size/\Hid (aW w1 w')):=fun w1 hb=>HT.o.take _ j j w1 (by rw[List.length_append,wU];omega) (HT.o.below _ _ _ HV.o hb)
   clear hinv hj
   go_wp2_with (go_at_call 152;refine(HTK.o _ (J _ _)).mono ?_;rintro e w1 ⟨rfl,HV1,hsz1,HK1⟩)
   go_roundw
   case rel=>exact⟨k+1,j+2,by omega,by have:=HJ.o;omega,by go_num,by rw[tF, <-HJ.o, <-List.append_assoc];exact HV1.o,Nat.le_trans hsz hsz1,hk3.trans HK1.o⟩
   case measure=>simp[intOf];omega
  ·have hkl:k=24:=by omega
   have hjb:¬j<=b:=by omega
   have hjb2:b<j:=by omega
   have E:Hid (dX a 24=dX a k):=by show _=_;rw[hkl]
   have HV:=I hinv
   clear hinv hj hkl
   go_wp2
   go_end0
   exact⟨rfl,by rw[E.o];exact HV.o,hsz,hk3⟩
theorem Ei{caps:Array Value}{Inv:List (Int×Int)->World->Prop}(T:eK 152 caps Inv)(L:List (Int×Int))(hL:L.length<=600)(w:World)(hI:Inv L w):
  Calls prog 165 #[.func (.func 152) #[] caps] w fun e w'=>e=.returned (.tuple #[])/\Inv (L++iY) w'/\w.heap.size<=w'.heap.size/\aW w w':=by
 have HI:=I hI
 have HT:=I T
 clear hI T
 go_enter func165,ntmps165
 go_wp2_with fail
 refine(gN HT.o iY (by decide) 4 (by decide) w.heap.size (L) (by first|omega|(simp[iY,jC,gq,js,gY,fD,iw];omega)) _ (HT.o.below _ w _ HI.o ((J _ w).alloc (U _) _)) (heap_alloc_new w _)).mono ?_
 rintro e w1 ⟨rfl,hi0,hs0,hk0⟩
 have HI0:=I hi0
 have HK0:=I hk0
 clear hi0 hk0
 have hz0:w.heap.size<=w1.heap.size:=by simp at hs0;omega
 have hq0:Hid (aW w w1):=(aW.below ((J _ w).alloc (U _) _)).trans HK0.o
 go_wp2
 go_end0
 exact⟨rfl,by exact HI0.o,hz0,hq0.o⟩
theorem Dz{caps:Array Value}{Inv:List (Int×Int)->World->Prop}(T:eK 152 caps Inv)(L:List (Int×Int))(hL:L.length<=600)(w:World)(hI:Inv L w):
  Calls prog 166 #[.func (.func 152) #[] caps] w fun e w'=>e=.returned (.tuple #[])/\Inv (L++jC) w'/\w.heap.size<=w'.heap.size/\aW w w':=by
 have HI:=I hI
 have HT:=I T
 clear hI T
 go_enter func166,ntmps166
 go_wp2_with fail
 refine(gN HT.o gq (by decide) 8 (by decide) w.heap.size (L) (by first|omega|(simp[iY,jC,gq,js,gY,fD,iw];omega)) _ (HT.o.below _ w _ HI.o ((J _ w).alloc (U _) _)) (heap_alloc_new w _)).mono ?_
 rintro e w1 ⟨rfl,hi0,hs0,hk0⟩
 have HI0:=I hi0
 have HK0:=I hk0
 clear hi0 hk0
 have hz0:w.heap.size<=w1.heap.size:=by simp at hs0;omega
 have hq0:Hid (aW w w1):=(aW.below ((J _ w).alloc (U _) _)).trans HK0.o
 go_wp2_with fail
 refine(gN HT.o js (by decide) 12 (by decide) w1.heap.size (L++gq) (by first|omega|(simp[gq];omega)) _ (HT.o.below _ w1 _ HI0.o ((J _ w1).alloc (U _) _)) (heap_alloc_new w1 _)).mono ?_
 rintro e w2 ⟨rfl,hi1,hs1,hk1⟩
 have HI1:=I hi1
 have HK1:=I hk1
 clear hi1 hk1
 have hz1:w1.heap.size<=w2.heap.size:=by simp at hs1;omega
 have hq1:Hid (aW w1 w2):=(aW.below ((J _ w1).alloc (U _) _)).trans HK1.o
 go_wp2
 go_end0
 exact⟨rfl,by have h:=HI1.o;rw[List.append_assoc]at h;exact h,(Nat.le_trans hz0 hz1),(aW.trans hq0.o hq1.o)⟩
theorem EO{caps:Array Value}{Inv:List (Int×Int)->World->Prop}(T:eK 152 caps Inv)(L:List (Int×Int))(hL:L.length<=600)(w:World)(hI:Inv L w):
  Calls prog 167 #[.func (.func 152) #[] caps] w fun e w'=>e=.returned (.tuple #[])/\Inv (L++gY) w'/\w.heap.size<=w'.heap.size/\aW w w':=by
 have HI:=I hI
 have HT:=I T
 clear hI T
 go_enter func167,ntmps167
 go_wp2_with fail
 refine(gN HT.o fD (by decide) 16 (by decide) w.heap.size (L) (by first|omega|(simp[iY,jC,gq,js,gY,fD,iw];omega)) _ (HT.o.below _ w _ HI.o ((J _ w).alloc (U _) _)) (heap_alloc_new w _)).mono ?_
 rintro e w1 ⟨rfl,hi0,hs0,hk0⟩
 have HI0:=I hi0
 have HK0:=I hk0
 clear hi0 hk0
 have hz0:w.heap.size<=w1.heap.size:=by simp at hs0;omega
 have hq0:Hid (aW w w1):=(aW.below ((J _ w).alloc (U _) _)).trans HK0.o
 go_wp2_with fail
 refine(gN HT.o iw (by decide) 10 (by decide) w1.heap.size (L++fD) (by first|omega|(simp[fD];omega)) _ (HT.o.below _ w1 _ HI0.o ((J _ w1).alloc (U _) _)) (heap_alloc_new w1 _)).mono ?_
 rintro e w2 ⟨rfl,hi1,hs1,hk1⟩
 have HI1:=I hi1
 have HK1:=I hk1
 clear hi1 hk1
 have hz1:w1.heap.size<=w2.heap.size:=by simp at hs1;omega
 have hq1:Hid (aW w1 w2):=(aW.below ((J _ w1).alloc (U _) _)).trans HK1.o
 go_wp2
 go_end0
 exact⟨rfl,by have h:=HI1.o;rw[List.append_assoc]at h;exact h,(Nat.le_trans hz0 hz1),(aW.trans hq0.o hq1.o)⟩
theorem xK{caps:Array Value}{Inv:List (Int×Int)->World->Prop}(T:eK 152 caps Inv)(L:List (Int×Int))(hL:L.length<=400)(w:World)(hI:Inv L w):
  Calls prog 169 #[.func (.func 152) #[] caps] w fun e w'=>e=.returned (.tuple #[])/\Inv (L++lu) w'/\w.heap.size<=w'.heap.size/\aW w w':=by
 have HI:=I hI
 have HT:=I T
 clear hI T
 go_enter func169,ntmps169
 go_wp2_with fail
 refine(EO HT.o (L) (by first|omega|(simp[iY,jC,gq,js,gY,fD,iw];omega)) w HI.o).mono ?_
 rintro e w1 ⟨rfl,hi0,hs0,hk0⟩
 have HI0:=I hi0
 have HK0:=I hk0
 clear hi0 hk0
 have hz0:w.heap.size<=w1.heap.size:=hs0
 have hq0:Hid (aW w w1):=HK0.o
 go_wp2_with fail
 refine(Ei HT.o (L++gY) (by first|omega|(simp[gY,fD,iw];omega)) w1 HI0.o).mono ?_
 rintro e w2 ⟨rfl,hi1,hs1,hk1⟩
 have HI1:=I hi1
 have HK1:=I hk1
 clear hi1 hk1
 have hz1:w1.heap.size<=w2.heap.size:=hs1
 have hq1:Hid (aW w1 w2):=HK1.o
 go_wp2
 go_end0
 exact⟨rfl,by have h:=HI1.o;rw[List.append_assoc]at h;exact h,(Nat.le_trans hz0 hz1),(aW.trans hq0.o hq1.o)⟩
theorem Bk{caps:Array Value}{Inv:List (Int×Int)->World->Prop}(T:eK 152 caps Inv)(w:World)(hI:Inv [] w):
  Calls prog 151 #[.string ⟨#[97,110,121]⟩,.func (.func 152) #[] caps] w fun e w'=>e=.returned (.bool true)/\Inv EJ w'/\w.heap.size<=w'.heap.size/\aW w w':=by
 have HI:=I hI
 have HT:=I T
 clear hI T
 go_enter func151,ntmps151
 go_wp2_with fail
 refine(gN HT.o ([(0,1114111)]:List (Int×Int)) (by decide) 2 (by decide) w.heap.size [] (by decide) _ (HT.o.below _ w _ HI.o ((J _ w).alloc (U _) _)) (heap_alloc_new w _)).mono ?_
 rintro e w1 ⟨rfl,hi0,hs0,hk0⟩
 have HI0:=I hi0
 have HK0:=I hk0
 clear hi0 hk0
 have hz0:w.heap.size<=w1.heap.size:=by simp at hs0;omega
 have hq0:Hid (aW w w1):=(aW.below ((J _ w).alloc (U _) _)).trans HK0.o
 go_wp2
 go_ret
 exact⟨rfl,HI0.o,hz0,hq0.o⟩
theorem vL{caps:Array Value}{Inv:List (Int×Int)->World->Prop}(T:eK 152 caps Inv)(w:World)(hI:Inv [] w):
  Calls prog 151 #[.string ⟨#[97,115,99,105,105]⟩,.func (.func 152) #[] caps] w fun e w'=>e=.returned (.bool true)/\Inv wu w'/\w.heap.size<=w'.heap.size/\aW w w':=by
 have HI:=I hI
 have HT:=I T
 clear hI T
 go_enter func151,ntmps151
 go_wp2_with fail
 refine(gN HT.o ([(0,127)]:List (Int×Int)) (by decide) 2 (by decide) w.heap.size [] (by decide) _ (HT.o.below _ w _ HI.o ((J _ w).alloc (U _) _)) (heap_alloc_new w _)).mono ?_
 rintro e w1 ⟨rfl,hi0,hs0,hk0⟩
 have HI0:=I hi0
 have HK0:=I hk0
 clear hi0 hk0
 have hz0:w.heap.size<=w1.heap.size:=by simp at hs0;omega
 have hq0:Hid (aW w w1):=(aW.below ((J _ w).alloc (U _) _)).trans HK0.o
 go_wp2
 go_ret
 exact⟨rfl,HI0.o,hz0,hq0.o⟩
theorem wQ{caps:Array Value}{Inv:List (Int×Int)->World->Prop}(T:eK 152 caps Inv)(w:World)(hI:Inv [] w):
  Calls prog 151 #[.string ⟨#[99,110,116,114,108]⟩,.func (.func 152) #[] caps] w fun e w'=>e=.returned (.bool true)/\Inv xv w'/\w.heap.size<=w'.heap.size/\aW w w':=by
 have HI:=I hI
 have HT:=I T
 clear hI T
 go_enter func151,ntmps151
 go_wp2_with fail
 refine(gN HT.o ([(0,31),(127,159)]:List (Int×Int)) (by decide) 4 (by decide) w.heap.size [] (by decide) _ (HT.o.below _ w _ HI.o ((J _ w).alloc (U _) _)) (heap_alloc_new w _)).mono ?_
 rintro e w1 ⟨rfl,hi0,hs0,hk0⟩
 have HI0:=I hi0
 have HK0:=I hk0
 clear hi0 hk0
 have hz0:w.heap.size<=w1.heap.size:=by simp at hs0;omega
 have hq0:Hid (aW w w1):=(aW.below ((J _ w).alloc (U _) _)).trans HK0.o
 go_wp2
 go_ret
 exact⟨rfl,HI0.o,hz0,hq0.o⟩
theorem wY{caps:Array Value}{Inv:List (Int×Int)->World->Prop}(T:eK 152 caps Inv)(w:World)(hI:Inv [] w):
  Calls prog 151 #[.string ⟨#[100,105,103,105,116]⟩,.func (.func 152) #[] caps] w fun e w'=>e=.returned (.bool true)/\Inv wW w'/\w.heap.size<=w'.heap.size/\aW w w':=by
 have HI:=I hI
 have HT:=I T
 clear hI T
 go_enter func151,ntmps151
 go_wp2_with fail
 refine(Ei HT.o [] (by decide) w HI.o).mono ?_
 rintro e w1 ⟨rfl,hi0,hs0,hk0⟩
 have HI0:=I hi0
 have HK0:=I hk0
 clear hi0 hk0
 have hz0:w.heap.size<=w1.heap.size:=hs0
 have hq0:Hid (aW w w1):=HK0.o
 go_wp2
 go_ret
 exact⟨rfl,HI0.o,hz0,hq0.o⟩
theorem ti{caps:Array Value}{Inv:List (Int×Int)->World->Prop}(T:eK 152 caps Inv)(w:World)(hI:Inv [] w):
  Calls prog 151 #[.string ⟨#[120,100,105,103,105,116]⟩,.func (.func 152) #[] caps] w fun e w'=>e=.returned (.bool true)/\Inv rQ w'/\w.heap.size<=w'.heap.size/\aW w w':=by
 have HI:=I hI
 have HT:=I T
 clear hI T
 go_enter func151,ntmps151
 go_wp2_with fail
 refine(gN HT.o ([(48,57),(65,70),(97,102)]:List (Int×Int)) (by decide) 6 (by decide) w.heap.size [] (by decide) _ (HT.o.below _ w _ HI.o ((J _ w).alloc (U _) _)) (heap_alloc_new w _)).mono ?_
 rintro e w1 ⟨rfl,hi0,hs0,hk0⟩
 have HI0:=I hi0
 have HK0:=I hk0
 clear hi0 hk0
 have hz0:w.heap.size<=w1.heap.size:=by simp at hs0;omega
 have hq0:Hid (aW w w1):=(aW.below ((J _ w).alloc (U _) _)).trans HK0.o
 go_wp2
 go_ret
 exact⟨rfl,HI0.o,hz0,hq0.o⟩
theorem vG{caps:Array Value}{Inv:List (Int×Int)->World->Prop}(T:eK 152 caps Inv)(w:World)(hI:Inv [] w):
  Calls prog 151 #[.string ⟨#[98,108,97,110,107]⟩,.func (.func 152) #[] caps] w fun e w'=>e=.returned (.bool true)/\Inv vV w'/\w.heap.size<=w'.heap.size/\aW w w':=by
 have HI:=I hI
 have HT:=I T
 clear hI T
 go_enter func151,ntmps151
 go_wp2_with fail
 refine(gN HT.o ([(9,9),(32,32)]:List (Int×Int)) (by decide) 4 (by decide) w.heap.size [] (by decide) _ (HT.o.below _ w _ HI.o ((J _ w).alloc (U _) _)) (heap_alloc_new w _)).mono ?_
 rintro e w1 ⟨rfl,hi0,hs0,hk0⟩
 have HI0:=I hi0
 have HK0:=I hk0
 clear hi0 hk0
 have hz0:w.heap.size<=w1.heap.size:=by simp at hs0;omega
 have hq0:Hid (aW w w1):=(aW.below ((J _ w).alloc (U _) _)).trans HK0.o
 go_wp2
 go_ret
 exact⟨rfl,HI0.o,hz0,hq0.o⟩
theorem vl{caps:Array Value}{Inv:List (Int×Int)->World->Prop}(T:eK 152 caps Inv)(w:World)(hI:Inv [] w):
  Calls prog 151 #[.string ⟨#[115,112,97,99,101]⟩,.func (.func 152) #[] caps] w fun e w'=>e=.returned (.bool true)/\Inv uR w'/\w.heap.size<=w'.heap.size/\aW w w':=by
 have HI:=I hI
 have HT:=I T
 clear hI T
 go_enter func151,ntmps151
 go_wp2_with fail
 refine(gN HT.o ([(9,13),(32,32),(133,133),(160,160),(8192,8202),(8232,8233),(12288,12288)]:List (Int×Int)) (by decide) 14 (by decide) w.heap.size [] (by decide) _ (HT.o.below _ w _ HI.o ((J _ w).alloc (U _) _)) (heap_alloc_new w _)).mono ?_
 rintro e w1 ⟨rfl,hi0,hs0,hk0⟩
 have HI0:=I hi0
 have HK0:=I hk0
 clear hi0 hk0
 have hz0:w.heap.size<=w1.heap.size:=by simp at hs0;omega
 have hq0:Hid (aW w w1):=(aW.below ((J _ w).alloc (U _) _)).trans HK0.o
 go_wp2
 go_ret
 exact⟨rfl,HI0.o,hz0,hq0.o⟩
theorem uJ{caps:Array Value}{Inv:List (Int×Int)->World->Prop}(T:eK 152 caps Inv)(w:World)(hI:Inv [] w):
  Calls prog 151 #[.string ⟨#[112,117,110,99,116]⟩,.func (.func 152) #[] caps] w fun e w'=>e=.returned (.bool true)/\Inv uP w'/\w.heap.size<=w'.heap.size/\aW w w':=by
 have HI:=I hI
 have HT:=I T
 clear hI T
 go_enter func151,ntmps151
 go_wp2_with fail
 refine(Dz HT.o [] (by decide) w HI.o).mono ?_
 rintro e w1 ⟨rfl,hi0,hs0,hk0⟩
 have HI0:=I hi0
 have HK0:=I hk0
 clear hi0 hk0
 have hz0:w.heap.size<=w1.heap.size:=hs0
 have hq0:Hid (aW w w1):=HK0.o
 go_wp2
 go_ret
 exact⟨rfl,HI0.o,hz0,hq0.o⟩
theorem oA{caps:Array Value}{Inv:List (Int×Int)->World->Prop}(T:eK 152 caps Inv)(w:World)(hI:Inv [] w):
  Calls prog 151 #[.string ⟨#[97,108,112,104,97]⟩,.func (.func 152) #[] caps] w fun e w'=>e=.returned (.bool true)/\Inv da w'/\w.heap.size<=w'.heap.size/\aW w w':=by
 have HI:=I hI
 have HT:=I T
 clear hI T
 go_enter func151,ntmps151
 go_wp2_with fail
 refine(EO HT.o [] (by decide) w HI.o).mono ?_
 rintro e w1 ⟨rfl,hi0,hs0,hk0⟩
 have HI0:=I hi0
 have HK0:=I hk0
 clear hi0 hk0
 have hz0:w.heap.size<=w1.heap.size:=hs0
 have hq0:Hid (aW w w1):=HK0.o
 go_wp2
 go_ret
 exact⟨rfl,HI0.o,hz0,hq0.o⟩
theorem vP{caps:Array Value}{Inv:List (Int×Int)->World->Prop}(T:eK 152 caps Inv)(w:World)(hI:Inv [] w):
  Calls prog 151 #[.string ⟨#[117,112,112,101,114]⟩,.func (.func 152) #[] caps] w fun e w'=>e=.returned (.bool true)/\Inv vS w'/\w.heap.size<=w'.heap.size/\aW w w':=by
 have HI:=I hI
 have HT:=I T
 clear hI T
 go_enter func151,ntmps151
 go_wp2_with fail
 refine(gN HT.o ([(65,90),(192,214),(216,222)]:List (Int×Int)) (by decide) 6 (by decide) w.heap.size [] (by decide) _ (HT.o.below _ w _ HI.o ((J _ w).alloc (U _) _)) (heap_alloc_new w _)).mono ?_
 rintro e w1 ⟨rfl,hi0,hs0,hk0⟩
 have HI0:=I hi0
 have HK0:=I hk0
 clear hi0 hk0
 have hz0:w.heap.size<=w1.heap.size:=by simp at hs0;omega
 have hq0:Hid (aW w w1):=(aW.below ((J _ w).alloc (U _) _)).trans HK0.o
 go_wp2_with fail
 refine(CP HT.o 256 302 (by decide) (by decide) (by decide) ([]++([(65,90),(192,214),(216,222)]:List (Int×Int))) (by decide) w1 HI0.o).mono ?_
 rintro e w2 ⟨rfl,hi1,hs1,hk1⟩
 have HI1:=I hi1
 have HK1:=I hk1
 clear hi1 hk1
 have hz1:w1.heap.size<=w2.heap.size:=hs1
 have hq1:Hid (aW w1 w2):=HK1.o
 go_wp2_with fail
 refine(gN HT.o ([(913,929),(931,939),(1024,1071),(7838,7838),(8490,8491)]:List (Int×Int)) (by decide) 10 (by decide) w2.heap.size ([]++([(65,90),(192,214),(216,222)]:List (Int×Int))++dX 256 24) (by decide) _ (HT.o.below _ w2 _ HI1.o ((J _ w2).alloc (U _) _)) (heap_alloc_new w2 _)).mono ?_
 rintro e w3 ⟨rfl,hi2,hs2,hk2⟩
 have HI2:=I hi2
 have HK2:=I hk2
 clear hi2 hk2
 have hz2:w2.heap.size<=w3.heap.size:=by simp at hs2;omega
 have hq2:Hid (aW w2 w3):=(aW.below ((J _ w2).alloc (U _) _)).trans HK2.o
 go_wp2
 go_ret
 exact⟨rfl,HI2.o,(Nat.le_trans (Nat.le_trans hz0 hz1) hz2),(aW.trans (aW.trans hq0.o hq1.o) hq2.o)⟩
theorem uW{caps:Array Value}{Inv:List (Int×Int)->World->Prop}(T:eK 152 caps Inv)(w:World)(hI:Inv [] w):
  Calls prog 151 #[.string ⟨#[108,111,119,101,114]⟩,.func (.func 152) #[] caps] w fun e w'=>e=.returned (.bool true)/\Inv uZ w'/\w.heap.size<=w'.heap.size/\aW w w':=by
 have HI:=I hI
 have HT:=I T
 clear hI T
 go_enter func151,ntmps151
 go_wp2_with fail
 refine(gN HT.o ([(97,122),(181,181),(223,246),(248,255)]:List (Int×Int)) (by decide) 8 (by decide) w.heap.size [] (by decide) _ (HT.o.below _ w _ HI.o ((J _ w).alloc (U _) _)) (heap_alloc_new w _)).mono ?_
 rintro e w1 ⟨rfl,hi0,hs0,hk0⟩
 have HI0:=I hi0
 have HK0:=I hk0
 clear hi0 hk0
 have hz0:w.heap.size<=w1.heap.size:=by simp at hs0;omega
 have hq0:Hid (aW w w1):=(aW.below ((J _ w).alloc (U _) _)).trans HK0.o
 go_wp2_with fail
 refine(CP HT.o 257 303 (by decide) (by decide) (by decide) ([]++([(97,122),(181,181),(223,246),(248,255)]:List (Int×Int))) (by decide) w1 HI0.o).mono ?_
 rintro e w2 ⟨rfl,hi1,hs1,hk1⟩
 have HI1:=I hi1
 have HK1:=I hk1
 clear hi1 hk1
 have hz1:w1.heap.size<=w2.heap.size:=hs1
 have hq1:Hid (aW w1 w2):=HK1.o
 go_wp2_with fail
 refine(gN HT.o ([(945,971),(1072,1119)]:List (Int×Int)) (by decide) 4 (by decide) w2.heap.size ([]++([(97,122),(181,181),(223,246),(248,255)]:List (Int×Int))++dX 257 24) (by decide) _ (HT.o.below _ w2 _ HI1.o ((J _ w2).alloc (U _) _)) (heap_alloc_new w2 _)).mono ?_
 rintro e w3 ⟨rfl,hi2,hs2,hk2⟩
 have HI2:=I hi2
 have HK2:=I hk2
 clear hi2 hk2
 have hz2:w2.heap.size<=w3.heap.size:=by simp at hs2;omega
 have hq2:Hid (aW w2 w3):=(aW.below ((J _ w2).alloc (U _) _)).trans HK2.o
 go_wp2
 go_ret
 exact⟨rfl,HI2.o,(Nat.le_trans (Nat.le_trans hz0 hz1) hz2),(aW.trans (aW.trans hq0.o hq1.o) hq2.o)⟩
theorem vr{caps:Array Value}{Inv:List (Int×Int)->World->Prop}(T:eK 152 caps Inv)(w:World)(hI:Inv [] w):
  Calls prog 151 #[.string ⟨#[97,108,110,117,109]⟩,.func (.func 152) #[] caps] w fun e w'=>e=.returned (.bool true)/\Inv uY w'/\w.heap.size<=w'.heap.size/\aW w w':=by
 have HI:=I hI
 have HT:=I T
 clear hI T
 go_enter func151,ntmps151
 go_wp2_with fail
 refine(xK HT.o [] (by decide) w HI.o).mono ?_
 rintro e w1 ⟨rfl,hi0,hs0,hk0⟩
 have HI0:=I hi0
 have HK0:=I hk0
 clear hi0 hk0
 have hz0:w.heap.size<=w1.heap.size:=hs0
 have hq0:Hid (aW w w1):=HK0.o
 go_wp2
 go_ret
 exact⟨rfl,HI0.o,hz0,hq0.o⟩
theorem yn{caps:Array Value}{Inv:List (Int×Int)->World->Prop}(T:eK 152 caps Inv)(w:World)(hI:Inv [] w):
  Calls prog 151 #[.string ⟨#[119,111,114,100]⟩,.func (.func 152) #[] caps] w fun e w'=>e=.returned (.bool true)/\Inv An w'/\w.heap.size<=w'.heap.size/\aW w w':=by
 have HI:=I hI
 have HT:=I T
 clear hI T
 go_enter func151,ntmps151
 go_wp2_with fail
 refine(xK HT.o [] (by decide) w HI.o).mono ?_
 rintro e w1 ⟨rfl,hi0,hs0,hk0⟩
 have HI0:=I hi0
 have HK0:=I hk0
 clear hi0 hk0
 have hz0:w.heap.size<=w1.heap.size:=hs0
 have hq0:Hid (aW w w1):=HK0.o
 go_wp2_with fail
 refine(gN HT.o ([(95,95)]:List (Int×Int)) (by decide) 2 (by decide) w1.heap.size ([]++lu) (by decide) _ (HT.o.below _ w1 _ HI0.o ((J _ w1).alloc (U _) _)) (heap_alloc_new w1 _)).mono ?_
 rintro e w2 ⟨rfl,hi1,hs1,hk1⟩
 have HI1:=I hi1
 have HK1:=I hk1
 clear hi1 hk1
 have hz1:w1.heap.size<=w2.heap.size:=by simp at hs1;omega
 have hq1:Hid (aW w1 w2):=(aW.below ((J _ w1).alloc (U _) _)).trans HK1.o
 go_wp2
 go_ret
 exact⟨rfl,HI1.o,(Nat.le_trans hz0 hz1),(aW.trans hq0.o hq1.o)⟩
theorem xA{caps:Array Value}{Inv:List (Int×Int)->World->Prop}(T:eK 152 caps Inv)(w:World)(hI:Inv [] w):
  Calls prog 151 #[.string ⟨#[103,114,97,112,104]⟩,.func (.func 152) #[] caps] w fun e w'=>e=.returned (.bool true)/\Inv xi w'/\w.heap.size<=w'.heap.size/\aW w w':=by
 have HI:=I hI
 have HT:=I T
 clear hI T
 go_enter func151,ntmps151
 go_wp2_with fail
 refine(xK HT.o [] (by decide) w HI.o).mono ?_
 rintro e w1 ⟨rfl,hi0,hs0,hk0⟩
 have HI0:=I hi0
 have HK0:=I hk0
 clear hi0 hk0
 have hz0:w.heap.size<=w1.heap.size:=hs0
 have hq0:Hid (aW w w1):=HK0.o
 go_wp2_with fail
 refine(Dz HT.o ([]++lu) (by decide) w1 HI0.o).mono ?_
 rintro e w2 ⟨rfl,hi1,hs1,hk1⟩
 have HI1:=I hi1
 have HK1:=I hk1
 clear hi1 hk1
 have hz1:w1.heap.size<=w2.heap.size:=hs1
 have hq1:Hid (aW w1 w2):=HK1.o
 go_wp2
 go_ret
 exact⟨rfl,HI1.o,(Nat.le_trans hz0 hz1),(aW.trans hq0.o hq1.o)⟩
end Go.Proofs.YtklbbbldalmnbaaGreatDoor.Fo
