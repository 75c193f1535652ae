import Derived.Test.YtklbbbldalmnbaaGreatDoorKA
import Derived.Deep.RegionWith
set_option linter.unusedVariables false
set_option maxHeartbeats 1000000
open Go.Proofs.Tryz
namespace Go.Proofs.YtklbbbldalmnbaaGreatDoor.Fo
open Go.RowKit
def bd(w w':World):Prop:=∀(k:Nat) (cs:Array Value),w.heap[k]? =some (.cells cs 3 (0,0))->w'.heap[k]? =some (.cells cs 3 (0,0))
theorem bd.refl(w:World):bd w w:=fun _ _ h=>h
theorem bd.trans{a b c:World}(h:bd a b)(k:bd b c):bd a c:=fun i cs hi=>k i cs (h i cs hi)
theorem bd.below{w w':World}(h:Below w.heap.size w w'):bd w w':=fun i cs hi=>by rw[h.block i (lt_of_block hi)];exact hi
structure eY(F:Nat)(caps:Array Value)(Inv:List (Int×Int)->World->Prop):Prop where
 enters:∀args w,(callFunc F args).run prog w=.ok (.enter F args) w
 take:∀L a b w,L.length<=1000->Inv L w->Calls prog F (#[.int .i64 a,.int .i64 b]++caps) w fun e w'=>e=.returned (.tuple #[])/\Inv (L++[(a,b)]) w'/\w.heap.size<=w'.heap.size/\bd w w'
 below:∀L w w',Inv L w->Below w.heap.size w w'->Inv L w'
def te(ps:List (Int×Int)):List Int:=ps.flatMap fun x=>[x.1,x.2]
theorem Cs(ps:List (Int×Int))(k:Nat)(h:k<ps.length):(te ps)[2*k]? =some ps[k].1/\(te ps)[2*k+1]? =some ps[k].2:=by
 induction ps generalizing k with
 |nil=>simp at h
 |cons x xs ih=>
  match k with
  |0=>simp[te]
  |k+1=>
   have:=ih k (by simpa using h)
   have e:te (x::xs)=x.1::x.2::te xs:=rfl
   rw[e]
   rw[show 2*(k+1)=2*k+1+1 from by omega]
   simpa using this
def ji:List (Int×Int):=[(48,57),(1632,1641)]
def gL:List (Int×Int):=[(33,47),(58,64),(91,96),(123,126)]
def jG:List (Int×Int):=[(161,169),(171,180),(182,185),(187,191),(215,215),(247,247)]
def ke:List (Int×Int):=gL++jG
def fT:List (Int×Int):=[(65,90),(97,122),(170,170),(181,181),(186,186),(192,214),(216,246),(248,591)]
def iX:List (Int×Int):=[(913,929),(931,974),(1024,1153),(7838,7838),(8490,8491)]
def iy:List (Int×Int):=fT++iX
def lY:List (Int×Int):=iy++ji
def ew(a:Int)(n:Nat):List (Int×Int):=(List.range n).map fun (i:Nat)=>(a+2*(i:Int),a+2*(i:Int))
theorem uU(a:Int)(n:Nat):ew a (n+1)=ew a n++[(a+2*(n:Int),a+2*(n:Int))]:=by
 simp[ew,List.range_succ]
theorem xF(a:Int)(n:Nat):(ew a n).length=n:=by simp[ew]
def FK:List (Int×Int):=[(0,1114111)]
def uO:ByteArray:=⟨#[97,110,121]⟩
def xH:List (Int×Int):=[(0,127)]
def ra:ByteArray:=⟨#[97,115,99,105,105]⟩
def xJ:List (Int×Int):=[(0,31),(127,159)]
def re:ByteArray:=⟨#[99,110,116,114,108]⟩
def xK:List (Int×Int):=ji
def nJ:ByteArray:=⟨#[100,105,103,105,116]⟩
def tM:List (Int×Int):=[(48,57),(65,70),(97,102)]
def lS:ByteArray:=⟨#[120,100,105,103,105,116]⟩
def xI:List (Int×Int):=[(9,9),(32,32)]
def rb:ByteArray:=⟨#[98,108,97,110,107]⟩
def xO:List (Int×Int):=[(9,13),(32,32),(133,133),(160,160),(8192,8202),(8232,8233),(12288,12288)]
def nK:ByteArray:=⟨#[115,112,97,99,101]⟩
def xN:List (Int×Int):=ke
def ri:ByteArray:=⟨#[112,117,110,99,116]⟩
def dq:List (Int×Int):=iy
def qZ:ByteArray:=⟨#[97,108,112,104,97]⟩
def xP:List (Int×Int):=[(65,90),(192,214),(216,222)]++ew 256 24++[(913,929),(931,939),(1024,1071),(7838,7838),(8490,8491)]
def rj:ByteArray:=⟨#[117,112,112,101,114]⟩
def xM:List (Int×Int):=[(97,122),(181,181),(223,246),(248,255)]++ew 257 24++[(945,971),(1072,1119)]
def rh:ByteArray:=⟨#[108,111,119,101,114]⟩
def xG:List (Int×Int):=lY
def qY:ByteArray:=⟨#[97,108,110,117,109]⟩
def Bd:List (Int×Int):=lY++[(95,95)]
def pK:ByteArray:=⟨#[119,111,114,100]⟩
def xL:List (Int×Int):=lY++ke
def rf:ByteArray:=⟨#[103,114,97,112,104]⟩
theorem hU{caps:Array Value}{Inv:List (Int×Int)->World->Prop}(T:eY 152 caps Inv)(ps:List (Int×Int))(hn:ps.length<=100)(n:Nat)(hnn:n=2*ps.length)(g:Nat)(L:List (Int×Int))(hL:L.length<=800)(w:World)(hI:Inv L w)(hrow:w.heap[g]? =some (.cells (dy (te ps)).toArray 3 (0,0))):
  Calls prog 164 #[.func (.func 152) #[] caps,.slice (some ⟨g,0,none⟩) n n] w fun e w'=>e=.returned (.tuple #[])/\Inv (L++ps) w'/\w.heap.size<=w'.heap.size/\bd w w':=by
 have HI:=I hI
 have HR:=I hrow
 have HT:=I T
 have ent:=T.enters
 have HN:=I hnn
 have hn2:n<=200:=by omega
 clear hI hrow T hnn
 go_enter func164,ntmps164
 go_wp2
 go_loopw [4] (fun i wr=>∃k j:Nat,k<=ps.length/\j=2*k/\i=.int .i64 j/\Inv (L++ps.take k) wr/\w.heap.size<=wr.heap.size/\bd w wr) (fun i _=>n - (intOf i).toNat)
 case atStart=>exact⟨0,0,Nat.zero_le _,rfl,rfl,by simpa using HI.o,ai _,bd.refl w⟩
 case round=>
  obtain⟨k,j,hk,hj,rfl,hinv,hsz,hk3⟩:=hrel
  have HJ:=I hj
  by_cases hlt:k<ps.length
  ·have hjn:j+1<n:=by have:=HN.o;omega
   have b0:j<n:=by omega
   have b1:(0:Int)<=(j:Int)+1:=by omega
   have b2:(j:Int)+1<(n:Int):=by omega
   have b3:IntKind.i64.wrap ((j:Int)+1)=(j:Int)+1:=by rw[IntKind.wrap_i64];omega
   have hrow:=hk3 _ _ HR.o
   obtain⟨x,hx⟩:=J (ps[k])
   obtain⟨g1,g2⟩:=Cs ps k hlt
   obtain⟨x1,x2⟩:=x
   have c1:wr.cell? ⟨g,j,none⟩=some (.int .i64 x1):=by rw[hj];simp[World.cell?,hrow,dy,g1, <-hx]
   have c2:wr.cell? ⟨g,j+1,none⟩=some (.int .i64 x2):=by rw[hj];simp[World.cell?,hrow,dy,g2, <-hx]
   have HX:=I hx
   have HV:=I hinv
   have HTK:Hid (∀w1,Below wr.heap.size wr w1->Calls prog 152 (#[.int .i64 x1,.int .i64 x2]++caps) w1 fun e w'=>e=.returned (.tuple #[])/\Hid (Inv (L++ps.take k++[(x1,x2)]) w')/\w1.heap.size<=w'.heap.size/\Hid (bd w1 w')):=fun w1 hb=>HT.o.take (L++ps.take k) x1 x2 w1 (by rw[List.length_append,List.length_take];omega) (HT.o.below _ _ _ HV.o hb)
   clear hx hinv hrow g1 g2 hj
   go_wp2
   go_region_with (go_at_call 152;refine(HTK.o _ (by first|exact aI _ _|exact(aI _ _).drew|exact(aI _ _).drew.drew)).mono ?_;rintro e w1 ⟨rfl,HV1,hsz1,HK1⟩)
   all_goals
    go_wp2
    go_roundw
    case rel=>exact⟨k+1,j+2,by omega,by have:=HJ.o;omega,by go_num,by rw[List.take_add_one,List.getElem?_eq_getElem hlt, <-HX.o, <-List.append_assoc];exact HV1.o,Nat.le_trans hsz hsz1,hk3.trans HK1.o⟩
    case measure=>simp[intOf];omega
  ·have hkl:k=ps.length:=by omega
   subst hkl
   rw[List.take_length]at hinv
   have hjn:n<=j:=by have:=HN.o;omega
   go_wp2
   go_end0
   exact⟨rfl,hinv,hsz,hk3⟩
theorem Er{caps:Array Value}{Inv:List (Int×Int)->World->Prop}(T:eY 152 caps Inv)(a b:Int)(h0:0<=a)(h1:b<=10000)(hb:b=a+46)(L:List (Int×Int))(hL:L.length<=800)(w:World)(hI:Inv L w):
  Calls prog 168 #[.func (.func 152) #[] caps,.int .i64 a,.int .i64 b] w fun e w'=>e=.returned (.tuple #[])/\Inv (L++ew a 24) w'/\w.heap.size<=w'.heap.size/\bd w w':=by
 have HI:=I hI
 have HT:=I T
 have ent:=T.enters
 have hab1:b<a+48:=by omega
 have hab2:a+46<=b:=by omega
 clear hI T hb
 go_enter func168,ntmps168
 go_wp2
 go_loopw [6] (fun i wr=>∃(k:Nat) (j:Int),k<=24/\j=a+2*(k:Int)/\i=.int .i64 j/\Inv (L++ew a k) wr/\w.heap.size<=wr.heap.size/\bd w wr) (fun i _=>(b+2 - intOf i).toNat)
 case atStart=>exact⟨0,a,Nat.zero_le _,by simp,rfl,by simpa[ew]using HI.o,ai _,bd.refl w⟩
 case round=>
  obtain⟨k,j,hk,hj,rfl,hinv,hsz,hk3⟩:=hrel
  have HJ:=I hj
  have j0:0<=j:=by omega
  have j1:j<=20000:=by omega
  by_cases hlt:k<24
  ·have hjb:j<=b:=by omega
   have HV:=I hinv
   have HTK:Hid (∀w1,Below wr.heap.size wr w1->Calls prog 152 (#[.int .i64 j,.int .i64 j]++caps) w1 fun e w'=>e=.returned (.tuple #[])/\Hid (Inv (L++ew a k++[(j,j)]) w')/\w1.heap.size<=w'.heap.size/\Hid (bd w1 w')):=fun w1 hb=>HT.o.take _ j j w1 (by rw[List.length_append,xF];omega) (HT.o.below _ _ _ HV.o hb)
   clear hinv hj
   go_wp2_with (go_at_call 152;refine(HTK.o _ (aI _ _)).mono ?_;rintro e w1 ⟨rfl,HV1,hsz1,HK1⟩)
   go_roundw
   case rel=>exact⟨k+1,j+2,by omega,by have:=HJ.o;omega,by go_num,by rw[uU, <-HJ.o, <-List.append_assoc];exact HV1.o,Nat.le_trans hsz hsz1,hk3.trans HK1.o⟩
   case measure=>simp[intOf];omega
  ·have hkl:k=24:=by omega
   have hjb:¬j<=b:=by omega
   have hjb2:b<j:=by omega
   have E:Hid (ew a 24=ew a k):=by show _=_;rw[hkl]
   have HV:=I hinv
   clear hinv hj hkl
   go_wp2
   go_end0
   exact⟨rfl,by rw[E.o];exact HV.o,hsz,hk3⟩
theorem Eh{caps:Array Value}{Inv:List (Int×Int)->World->Prop}(T:eY 152 caps Inv)(L:List (Int×Int))(hL:L.length<=600)(w:World)(hI:Inv L w):
  Calls prog 165 #[.func (.func 152) #[] caps] w fun e w'=>e=.returned (.tuple #[])/\Inv (L++ji) w'/\w.heap.size<=w'.heap.size/\bd w w':=by
 have HI:=I hI
 have HT:=I T
 clear hI T
 go_enter func165,ntmps165
 go_wp2_with fail
 refine(hU HT.o ji (by decide) 4 (by decide) w.heap.size (L) (by first|omega|(simp[ji,ke,gL,jG,iy,fT,iX];omega)) _ (HT.o.below _ w _ HI.o (an w _)) (heap_alloc_new w _)).mono ?_
 rintro e w1 ⟨rfl,hi0,hs0,hk0⟩
 have HI0:=I hi0
 have HK0:=I hk0
 clear hi0 hk0
 have hz0:w.heap.size<=w1.heap.size:=by simp at hs0;omega
 have hq0:Hid (bd w w1):=(bd.below (an w _)).trans HK0.o
 go_wp2
 go_end0
 exact⟨rfl,by exact HI0.o,hz0,hq0.o⟩
theorem FL{caps:Array Value}{Inv:List (Int×Int)->World->Prop}(T:eY 152 caps Inv)(L:List (Int×Int))(hL:L.length<=600)(w:World)(hI:Inv L w):
  Calls prog 166 #[.func (.func 152) #[] caps] w fun e w'=>e=.returned (.tuple #[])/\Inv (L++ke) w'/\w.heap.size<=w'.heap.size/\bd w w':=by
 have HI:=I hI
 have HT:=I T
 clear hI T
 go_enter func166,ntmps166
 go_wp2_with fail
 refine(hU HT.o gL (by decide) 8 (by decide) w.heap.size (L) (by first|omega|(simp[ji,ke,gL,jG,iy,fT,iX];omega)) _ (HT.o.below _ w _ HI.o (an w _)) (heap_alloc_new w _)).mono ?_
 rintro e w1 ⟨rfl,hi0,hs0,hk0⟩
 have HI0:=I hi0
 have HK0:=I hk0
 clear hi0 hk0
 have hz0:w.heap.size<=w1.heap.size:=by simp at hs0;omega
 have hq0:Hid (bd w w1):=(bd.below (an w _)).trans HK0.o
 go_wp2_with fail
 refine(hU HT.o jG (by decide) 12 (by decide) w1.heap.size (L++gL) (by first|omega|(simp[gL];omega)) _ (HT.o.below _ w1 _ HI0.o (an w1 _)) (heap_alloc_new w1 _)).mono ?_
 rintro e w2 ⟨rfl,hi1,hs1,hk1⟩
 have HI1:=I hi1
 have HK1:=I hk1
 clear hi1 hk1
 have hz1:w1.heap.size<=w2.heap.size:=by simp at hs1;omega
 have hq1:Hid (bd w1 w2):=(bd.below (an w1 _)).trans HK1.o
 go_wp2
 go_end0
 exact⟨rfl,by have h:=HI1.o;rw[List.append_assoc]at h;exact h,(Nat.le_trans hz0 hz1),(bd.trans hq0.o hq1.o)⟩
theorem DX{caps:Array Value}{Inv:List (Int×Int)->World->Prop}(T:eY 152 caps Inv)(L:List (Int×Int))(hL:L.length<=600)(w:World)(hI:Inv L w):
  Calls prog 167 #[.func (.func 152) #[] caps] w fun e w'=>e=.returned (.tuple #[])/\Inv (L++iy) w'/\w.heap.size<=w'.heap.size/\bd w w':=by
 have HI:=I hI
 have HT:=I T
 clear hI T
 go_enter func167,ntmps167
 go_wp2_with fail
 refine(hU HT.o fT (by decide) 16 (by decide) w.heap.size (L) (by first|omega|(simp[ji,ke,gL,jG,iy,fT,iX];omega)) _ (HT.o.below _ w _ HI.o (an w _)) (heap_alloc_new w _)).mono ?_
 rintro e w1 ⟨rfl,hi0,hs0,hk0⟩
 have HI0:=I hi0
 have HK0:=I hk0
 clear hi0 hk0
 have hz0:w.heap.size<=w1.heap.size:=by simp at hs0;omega
 have hq0:Hid (bd w w1):=(bd.below (an w _)).trans HK0.o
 go_wp2_with fail
 refine(hU HT.o iX (by decide) 10 (by decide) w1.heap.size (L++fT) (by first|omega|(simp[fT];omega)) _ (HT.o.below _ w1 _ HI0.o (an w1 _)) (heap_alloc_new w1 _)).mono ?_
 rintro e w2 ⟨rfl,hi1,hs1,hk1⟩
 have HI1:=I hi1
 have HK1:=I hk1
 clear hi1 hk1
 have hz1:w1.heap.size<=w2.heap.size:=by simp at hs1;omega
 have hq1:Hid (bd w1 w2):=(bd.below (an w1 _)).trans HK1.o
 go_wp2
 go_end0
 exact⟨rfl,by have h:=HI1.o;rw[List.append_assoc]at h;exact h,(Nat.le_trans hz0 hz1),(bd.trans hq0.o hq1.o)⟩
theorem yL{caps:Array Value}{Inv:List (Int×Int)->World->Prop}(T:eY 152 caps Inv)(L:List (Int×Int))(hL:L.length<=400)(w:World)(hI:Inv L w):
  Calls prog 169 #[.func (.func 152) #[] caps] w fun e w'=>e=.returned (.tuple #[])/\Inv (L++lY) w'/\w.heap.size<=w'.heap.size/\bd w w':=by
 have HI:=I hI
 have HT:=I T
 clear hI T
 go_enter func169,ntmps169
 go_wp2_with fail
 refine(DX HT.o (L) (by first|omega|(simp[ji,ke,gL,jG,iy,fT,iX];omega)) w HI.o).mono ?_
 rintro e w1 ⟨rfl,hi0,hs0,hk0⟩
 have HI0:=I hi0
 have HK0:=I hk0
 clear hi0 hk0
 have hz0:w.heap.size<=w1.heap.size:=hs0
 have hq0:Hid (bd w w1):=HK0.o
 go_wp2_with fail
 refine(Eh HT.o (L++iy) (by first|omega|(simp[iy,fT,iX];omega)) w1 HI0.o).mono ?_
 rintro e w2 ⟨rfl,hi1,hs1,hk1⟩
 have HI1:=I hi1
 have HK1:=I hk1
 clear hi1 hk1
 have hz1:w1.heap.size<=w2.heap.size:=hs1
 have hq1:Hid (bd w1 w2):=HK1.o
 go_wp2
 go_end0
 exact⟨rfl,by have h:=HI1.o;rw[List.append_assoc]at h;exact h,(Nat.le_trans hz0 hz1),(bd.trans hq0.o hq1.o)⟩
theorem Ce{caps:Array Value}{Inv:List (Int×Int)->World->Prop}(T:eY 152 caps Inv)(w:World)(hI:Inv [] w):
  Calls prog 151 #[.string ⟨#[97,110,121]⟩,.func (.func 152) #[] caps] w fun e w'=>e=.returned (.bool true)/\Inv FK w'/\w.heap.size<=w'.heap.size/\bd w w':=by
 have HI:=I hI
 have HT:=I T
 clear hI T
 go_enter func151,ntmps151
 go_wp2_with fail
 refine(hU HT.o ([(0,1114111)]:List (Int×Int)) (by decide) 2 (by decide) w.heap.size [] (by decide) _ (HT.o.below _ w _ HI.o (an w _)) (heap_alloc_new w _)).mono ?_
 rintro e w1 ⟨rfl,hi0,hs0,hk0⟩
 have HI0:=I hi0
 have HK0:=I hk0
 clear hi0 hk0
 have hz0:w.heap.size<=w1.heap.size:=by simp at hs0;omega
 have hq0:Hid (bd w w1):=(bd.below (an w _)).trans HK0.o
 go_wp2
 go_ret
 exact⟨rfl,HI0.o,hz0,hq0.o⟩
theorem vZ{caps:Array Value}{Inv:List (Int×Int)->World->Prop}(T:eY 152 caps Inv)(w:World)(hI:Inv [] w):
  Calls prog 151 #[.string ⟨#[97,115,99,105,105]⟩,.func (.func 152) #[] caps] w fun e w'=>e=.returned (.bool true)/\Inv xH w'/\w.heap.size<=w'.heap.size/\bd w w':=by
 have HI:=I hI
 have HT:=I T
 clear hI T
 go_enter func151,ntmps151
 go_wp2_with fail
 refine(hU HT.o ([(0,127)]:List (Int×Int)) (by decide) 2 (by decide) w.heap.size [] (by decide) _ (HT.o.below _ w _ HI.o (an w _)) (heap_alloc_new w _)).mono ?_
 rintro e w1 ⟨rfl,hi0,hs0,hk0⟩
 have HI0:=I hi0
 have HK0:=I hk0
 clear hi0 hk0
 have hz0:w.heap.size<=w1.heap.size:=by simp at hs0;omega
 have hq0:Hid (bd w w1):=(bd.below (an w _)).trans HK0.o
 go_wp2
 go_ret
 exact⟨rfl,HI0.o,hz0,hq0.o⟩
theorem wc{caps:Array Value}{Inv:List (Int×Int)->World->Prop}(T:eY 152 caps Inv)(w:World)(hI:Inv [] w):
  Calls prog 151 #[.string ⟨#[99,110,116,114,108]⟩,.func (.func 152) #[] caps] w fun e w'=>e=.returned (.bool true)/\Inv xJ w'/\w.heap.size<=w'.heap.size/\bd w w':=by
 have HI:=I hI
 have HT:=I T
 clear hI T
 go_enter func151,ntmps151
 go_wp2_with fail
 refine(hU HT.o ([(0,31),(127,159)]:List (Int×Int)) (by decide) 4 (by decide) w.heap.size [] (by decide) _ (HT.o.below _ w _ HI.o (an w _)) (heap_alloc_new w _)).mono ?_
 rintro e w1 ⟨rfl,hi0,hs0,hk0⟩
 have HI0:=I hi0
 have HK0:=I hk0
 clear hi0 hk0
 have hz0:w.heap.size<=w1.heap.size:=by simp at hs0;omega
 have hq0:Hid (bd w w1):=(bd.below (an w _)).trans HK0.o
 go_wp2
 go_ret
 exact⟨rfl,HI0.o,hz0,hq0.o⟩
theorem we{caps:Array Value}{Inv:List (Int×Int)->World->Prop}(T:eY 152 caps Inv)(w:World)(hI:Inv [] w):
  Calls prog 151 #[.string ⟨#[100,105,103,105,116]⟩,.func (.func 152) #[] caps] w fun e w'=>e=.returned (.bool true)/\Inv xK w'/\w.heap.size<=w'.heap.size/\bd w w':=by
 have HI:=I hI
 have HT:=I T
 clear hI T
 go_enter func151,ntmps151
 go_wp2_with fail
 refine(Eh HT.o [] (by decide) w HI.o).mono ?_
 rintro e w1 ⟨rfl,hi0,hs0,hk0⟩
 have HI0:=I hi0
 have HK0:=I hk0
 clear hi0 hk0
 have hz0:w.heap.size<=w1.heap.size:=hs0
 have hq0:Hid (bd w w1):=HK0.o
 go_wp2
 go_ret
 exact⟨rfl,HI0.o,hz0,hq0.o⟩
theorem uj{caps:Array Value}{Inv:List (Int×Int)->World->Prop}(T:eY 152 caps Inv)(w:World)(hI:Inv [] w):
  Calls prog 151 #[.string ⟨#[120,100,105,103,105,116]⟩,.func (.func 152) #[] caps] w fun e w'=>e=.returned (.bool true)/\Inv tM w'/\w.heap.size<=w'.heap.size/\bd w w':=by
 have HI:=I hI
 have HT:=I T
 clear hI T
 go_enter func151,ntmps151
 go_wp2_with fail
 refine(hU HT.o ([(48,57),(65,70),(97,102)]:List (Int×Int)) (by decide) 6 (by decide) w.heap.size [] (by decide) _ (HT.o.below _ w _ HI.o (an w _)) (heap_alloc_new w _)).mono ?_
 rintro e w1 ⟨rfl,hi0,hs0,hk0⟩
 have HI0:=I hi0
 have HK0:=I hk0
 clear hi0 hk0
 have hz0:w.heap.size<=w1.heap.size:=by simp at hs0;omega
 have hq0:Hid (bd w w1):=(bd.below (an w _)).trans HK0.o
 go_wp2
 go_ret
 exact⟨rfl,HI0.o,hz0,hq0.o⟩
theorem v8{caps:Array Value}{Inv:List (Int×Int)->World->Prop}(T:eY 152 caps Inv)(w:World)(hI:Inv [] w):
  Calls prog 151 #[.string ⟨#[98,108,97,110,107]⟩,.func (.func 152) #[] caps] w fun e w'=>e=.returned (.bool true)/\Inv xI w'/\w.heap.size<=w'.heap.size/\bd w w':=by
 have HI:=I hI
 have HT:=I T
 clear hI T
 go_enter func151,ntmps151
 go_wp2_with fail
 refine(hU HT.o ([(9,9),(32,32)]:List (Int×Int)) (by decide) 4 (by decide) w.heap.size [] (by decide) _ (HT.o.below _ w _ HI.o (an w _)) (heap_alloc_new w _)).mono ?_
 rintro e w1 ⟨rfl,hi0,hs0,hk0⟩
 have HI0:=I hi0
 have HK0:=I hk0
 clear hi0 hk0
 have hz0:w.heap.size<=w1.heap.size:=by simp at hs0;omega
 have hq0:Hid (bd w w1):=(bd.below (an w _)).trans HK0.o
 go_wp2
 go_ret
 exact⟨rfl,HI0.o,hz0,hq0.o⟩
theorem wj{caps:Array Value}{Inv:List (Int×Int)->World->Prop}(T:eY 152 caps Inv)(w:World)(hI:Inv [] w):
  Calls prog 151 #[.string ⟨#[115,112,97,99,101]⟩,.func (.func 152) #[] caps] w fun e w'=>e=.returned (.bool true)/\Inv xO w'/\w.heap.size<=w'.heap.size/\bd w w':=by
 have HI:=I hI
 have HT:=I T
 clear hI T
 go_enter func151,ntmps151
 go_wp2_with fail
 refine(hU HT.o ([(9,13),(32,32),(133,133),(160,160),(8192,8202),(8232,8233),(12288,12288)]:List (Int×Int)) (by decide) 14 (by decide) w.heap.size [] (by decide) _ (HT.o.below _ w _ HI.o (an w _)) (heap_alloc_new w _)).mono ?_
 rintro e w1 ⟨rfl,hi0,hs0,hk0⟩
 have HI0:=I hi0
 have HK0:=I hk0
 clear hi0 hk0
 have hz0:w.heap.size<=w1.heap.size:=by simp at hs0;omega
 have hq0:Hid (bd w w1):=(bd.below (an w _)).trans HK0.o
 go_wp2
 go_ret
 exact⟨rfl,HI0.o,hz0,hq0.o⟩
theorem wi{caps:Array Value}{Inv:List (Int×Int)->World->Prop}(T:eY 152 caps Inv)(w:World)(hI:Inv [] w):
  Calls prog 151 #[.string ⟨#[112,117,110,99,116]⟩,.func (.func 152) #[] caps] w fun e w'=>e=.returned (.bool true)/\Inv xN w'/\w.heap.size<=w'.heap.size/\bd w w':=by
 have HI:=I hI
 have HT:=I T
 clear hI T
 go_enter func151,ntmps151
 go_wp2_with fail
 refine(FL HT.o [] (by decide) w HI.o).mono ?_
 rintro e w1 ⟨rfl,hi0,hs0,hk0⟩
 have HI0:=I hi0
 have HK0:=I hk0
 clear hi0 hk0
 have hz0:w.heap.size<=w1.heap.size:=hs0
 have hq0:Hid (bd w w1):=HK0.o
 go_wp2
 go_ret
 exact⟨rfl,HI0.o,hz0,hq0.o⟩
theorem oY{caps:Array Value}{Inv:List (Int×Int)->World->Prop}(T:eY 152 caps Inv)(w:World)(hI:Inv [] w):
  Calls prog 151 #[.string ⟨#[97,108,112,104,97]⟩,.func (.func 152) #[] caps] w fun e w'=>e=.returned (.bool true)/\Inv dq w'/\w.heap.size<=w'.heap.size/\bd w w':=by
 have HI:=I hI
 have HT:=I T
 clear hI T
 go_enter func151,ntmps151
 go_wp2_with fail
 refine(DX HT.o [] (by decide) w HI.o).mono ?_
 rintro e w1 ⟨rfl,hi0,hs0,hk0⟩
 have HI0:=I hi0
 have HK0:=I hk0
 clear hi0 hk0
 have hz0:w.heap.size<=w1.heap.size:=hs0
 have hq0:Hid (bd w w1):=HK0.o
 go_wp2
 go_ret
 exact⟨rfl,HI0.o,hz0,hq0.o⟩
theorem wk{caps:Array Value}{Inv:List (Int×Int)->World->Prop}(T:eY 152 caps Inv)(w:World)(hI:Inv [] w):
  Calls prog 151 #[.string ⟨#[117,112,112,101,114]⟩,.func (.func 152) #[] caps] w fun e w'=>e=.returned (.bool true)/\Inv xP w'/\w.heap.size<=w'.heap.size/\bd w w':=by
 have HI:=I hI
 have HT:=I T
 clear hI T
 go_enter func151,ntmps151
 go_wp2_with fail
 refine(hU HT.o ([(65,90),(192,214),(216,222)]:List (Int×Int)) (by decide) 6 (by decide) w.heap.size [] (by decide) _ (HT.o.below _ w _ HI.o (an w _)) (heap_alloc_new w _)).mono ?_
 rintro e w1 ⟨rfl,hi0,hs0,hk0⟩
 have HI0:=I hi0
 have HK0:=I hk0
 clear hi0 hk0
 have hz0:w.heap.size<=w1.heap.size:=by simp at hs0;omega
 have hq0:Hid (bd w w1):=(bd.below (an w _)).trans HK0.o
 go_wp2_with fail
 refine(Er HT.o 256 302 (by decide) (by decide) (by decide) ([]++([(65,90),(192,214),(216,222)]:List (Int×Int))) (by decide) w1 HI0.o).mono ?_
 rintro e w2 ⟨rfl,hi1,hs1,hk1⟩
 have HI1:=I hi1
 have HK1:=I hk1
 clear hi1 hk1
 have hz1:w1.heap.size<=w2.heap.size:=hs1
 have hq1:Hid (bd w1 w2):=HK1.o
 go_wp2_with fail
 refine(hU HT.o ([(913,929),(931,939),(1024,1071),(7838,7838),(8490,8491)]:List (Int×Int)) (by decide) 10 (by decide) w2.heap.size ([]++([(65,90),(192,214),(216,222)]:List (Int×Int))++ew 256 24) (by decide) _ (HT.o.below _ w2 _ HI1.o (an w2 _)) (heap_alloc_new w2 _)).mono ?_
 rintro e w3 ⟨rfl,hi2,hs2,hk2⟩
 have HI2:=I hi2
 have HK2:=I hk2
 clear hi2 hk2
 have hz2:w2.heap.size<=w3.heap.size:=by simp at hs2;omega
 have hq2:Hid (bd w2 w3):=(bd.below (an w2 _)).trans HK2.o
 go_wp2
 go_ret
 exact⟨rfl,HI2.o,(Nat.le_trans (Nat.le_trans hz0 hz1) hz2),(bd.trans (bd.trans hq0.o hq1.o) hq2.o)⟩
theorem wh{caps:Array Value}{Inv:List (Int×Int)->World->Prop}(T:eY 152 caps Inv)(w:World)(hI:Inv [] w):
  Calls prog 151 #[.string ⟨#[108,111,119,101,114]⟩,.func (.func 152) #[] caps] w fun e w'=>e=.returned (.bool true)/\Inv xM w'/\w.heap.size<=w'.heap.size/\bd w w':=by
 have HI:=I hI
 have HT:=I T
 clear hI T
 go_enter func151,ntmps151
 go_wp2_with fail
 refine(hU HT.o ([(97,122),(181,181),(223,246),(248,255)]:List (Int×Int)) (by decide) 8 (by decide) w.heap.size [] (by decide) _ (HT.o.below _ w _ HI.o (an w _)) (heap_alloc_new w _)).mono ?_
 rintro e w1 ⟨rfl,hi0,hs0,hk0⟩
 have HI0:=I hi0
 have HK0:=I hk0
 clear hi0 hk0
 have hz0:w.heap.size<=w1.heap.size:=by simp at hs0;omega
 have hq0:Hid (bd w w1):=(bd.below (an w _)).trans HK0.o
 go_wp2_with fail
 refine(Er HT.o 257 303 (by decide) (by decide) (by decide) ([]++([(97,122),(181,181),(223,246),(248,255)]:List (Int×Int))) (by decide) w1 HI0.o).mono ?_
 rintro e w2 ⟨rfl,hi1,hs1,hk1⟩
 have HI1:=I hi1
 have HK1:=I hk1
 clear hi1 hk1
 have hz1:w1.heap.size<=w2.heap.size:=hs1
 have hq1:Hid (bd w1 w2):=HK1.o
 go_wp2_with fail
 refine(hU HT.o ([(945,971),(1072,1119)]:List (Int×Int)) (by decide) 4 (by decide) w2.heap.size ([]++([(97,122),(181,181),(223,246),(248,255)]:List (Int×Int))++ew 257 24) (by decide) _ (HT.o.below _ w2 _ HI1.o (an w2 _)) (heap_alloc_new w2 _)).mono ?_
 rintro e w3 ⟨rfl,hi2,hs2,hk2⟩
 have HI2:=I hi2
 have HK2:=I hk2
 clear hi2 hk2
 have hz2:w2.heap.size<=w3.heap.size:=by simp at hs2;omega
 have hq2:Hid (bd w2 w3):=(bd.below (an w2 _)).trans HK2.o
 go_wp2
 go_ret
 exact⟨rfl,HI2.o,(Nat.le_trans (Nat.le_trans hz0 hz1) hz2),(bd.trans (bd.trans hq0.o hq1.o) hq2.o)⟩
theorem vY{caps:Array Value}{Inv:List (Int×Int)->World->Prop}(T:eY 152 caps Inv)(w:World)(hI:Inv [] w):
  Calls prog 151 #[.string ⟨#[97,108,110,117,109]⟩,.func (.func 152) #[] caps] w fun e w'=>e=.returned (.bool true)/\Inv xG w'/\w.heap.size<=w'.heap.size/\bd w w':=by
 have HI:=I hI
 have HT:=I T
 clear hI T
 go_enter func151,ntmps151
 go_wp2_with fail
 refine(yL HT.o [] (by decide) w HI.o).mono ?_
 rintro e w1 ⟨rfl,hi0,hs0,hk0⟩
 have HI0:=I hi0
 have HK0:=I hk0
 clear hi0 hk0
 have hz0:w.heap.size<=w1.heap.size:=hs0
 have hq0:Hid (bd w w1):=HK0.o
 go_wp2
 go_ret
 exact⟨rfl,HI0.o,hz0,hq0.o⟩
theorem zp{caps:Array Value}{Inv:List (Int×Int)->World->Prop}(T:eY 152 caps Inv)(w:World)(hI:Inv [] w):
  Calls prog 151 #[.string ⟨#[119,111,114,100]⟩,.func (.func 152) #[] caps] w fun e w'=>e=.returned (.bool true)/\Inv Bd w'/\w.heap.size<=w'.heap.size/\bd w w':=by
 have HI:=I hI
 have HT:=I T
 clear hI T
 go_enter func151,ntmps151
 go_wp2_with fail
 refine(yL HT.o [] (by decide) w HI.o).mono ?_
 rintro e w1 ⟨rfl,hi0,hs0,hk0⟩
 have HI0:=I hi0
 have HK0:=I hk0
 clear hi0 hk0
 have hz0:w.heap.size<=w1.heap.size:=hs0
 have hq0:Hid (bd w w1):=HK0.o
 go_wp2_with fail
 refine(hU HT.o ([(95,95)]:List (Int×Int)) (by decide) 2 (by decide) w1.heap.size ([]++lY) (by decide) _ (HT.o.below _ w1 _ HI0.o (an w1 _)) (heap_alloc_new w1 _)).mono ?_
 rintro e w2 ⟨rfl,hi1,hs1,hk1⟩
 have HI1:=I hi1
 have HK1:=I hk1
 clear hi1 hk1
 have hz1:w1.heap.size<=w2.heap.size:=by simp at hs1;omega
 have hq1:Hid (bd w1 w2):=(bd.below (an w1 _)).trans HK1.o
 go_wp2
 go_ret
 exact⟨rfl,HI1.o,(Nat.le_trans hz0 hz1),(bd.trans hq0.o hq1.o)⟩
theorem wg{caps:Array Value}{Inv:List (Int×Int)->World->Prop}(T:eY 152 caps Inv)(w:World)(hI:Inv [] w):
  Calls prog 151 #[.string ⟨#[103,114,97,112,104]⟩,.func (.func 152) #[] caps] w fun e w'=>e=.returned (.bool true)/\Inv xL w'/\w.heap.size<=w'.heap.size/\bd w w':=by
 have HI:=I hI
 have HT:=I T
 clear hI T
 go_enter func151,ntmps151
 go_wp2_with fail
 refine(yL HT.o [] (by decide) w HI.o).mono ?_
 rintro e w1 ⟨rfl,hi0,hs0,hk0⟩
 have HI0:=I hi0
 have HK0:=I hk0
 clear hi0 hk0
 have hz0:w.heap.size<=w1.heap.size:=hs0
 have hq0:Hid (bd w w1):=HK0.o
 go_wp2_with fail
 refine(FL HT.o ([]++lY) (by decide) w1 HI0.o).mono ?_
 rintro e w2 ⟨rfl,hi1,hs1,hk1⟩
 have HI1:=I hi1
 have HK1:=I hk1
 clear hi1 hk1
 have hz1:w1.heap.size<=w2.heap.size:=hs1
 have hq1:Hid (bd w1 w2):=HK1.o
 go_wp2
 go_ret
 exact⟨rfl,HI1.o,(Nat.le_trans hz0 hz1),(bd.trans hq0.o hq1.o)⟩
end Go.Proofs.YtklbbbldalmnbaaGreatDoor.Fo
