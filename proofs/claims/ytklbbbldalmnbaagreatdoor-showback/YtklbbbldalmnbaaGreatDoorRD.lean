import Derived.Test.YtklbbbldalmnbaaGreatDoorZo
import Derived.Shelf.Strconv.Itoa3
import Derived.Test.YtklbbbldalmnbaaGreatDoorProg
import Derived.Test.YtklbbbldalmnbaaGreatDoorRB
import Derived.Lib.ItoaNum
import Derived.Laws.BytesArg
import Derived.Lib.QuoteBits
import Derived.Test.YtklbbbldalmnbaaGreatDoorRA
import Derived.Test.YtklbbbldalmnbaaGreatDoorMB
import Derived.Lib.Strings
import Derived.Lib.Slices
import Derived.Lib.Walk
import Derived.Lib.Builder
import Derived.Lib.AppendStr
import Derived.Lib.UnsafeStr
import Derived.WalkKit
import Derived.Laws.Externs
import Derived.Laws.AppendOwn
import Derived.RegionTactic
import Derived.Deep.RegionWith
set_option maxRecDepth 100000
set_option linter.unusedVariables false
set_option maxHeartbeats 4000000
open Go.Proofs.Tryz
namespace Go.Proofs
open Go.Shelf
def Tryz.C9:Go.Shelf.Ren:=⟨fun|171=>62|243=>73|246=>80|283=>87|284=>88|285=>89|286=>90|317=>99|318=>101|319=>102|320=>103|337=>114|338=>115|129=>100|n=>n,fun|0=>0|2=>2|3=>3|4=>4|5=>5|9=>9|20=>20|37=>59|46=>138|51=>136|53=>125|171=>124|173=>128|212=>135|213=>137|232=>156|233=>157|n=>n,fun|17=>0|18=>1|19=>2|n=>n⟩
theorem Tryz.Hr:Go.Proofs.LaysM.n171 prog Tryz.C9:={
 mixed:=by kernel_rfl
 f129:=func100.trans (congrArg some (by kernel_rfl))
 f171:=func62.trans (congrArg some (by kernel_rfl))
 f243:=func73.trans (congrArg some (by kernel_rfl))
 f246:=func80.trans (congrArg some (by kernel_rfl))
 f283:=func87.trans (congrArg some (by kernel_rfl))
 f284:=func88.trans (congrArg some (by kernel_rfl))
 f285:=func89.trans (congrArg some (by kernel_rfl))
 f286:=func90.trans (congrArg some (by kernel_rfl))
 f317:=func99.trans (congrArg some (by kernel_rfl))
 f318:=func101.trans (congrArg some (by kernel_rfl))
 f319:=func102.trans (congrArg some (by kernel_rfl))
 f320:=func103.trans (congrArg some (by kernel_rfl))
 f337:=func114.trans (congrArg some (by kernel_rfl))
 f338:=func115.trans (congrArg some (by kernel_rfl))
 t0:=underlying0
 a0:=isAgg0
 z0:=sizeOf0
 v0:=zeroValue0
 t2:=underlying2
 a2:=isAgg2
 z2:=sizeOf2
 v2:=zeroValue2
 t3:=underlying3
 a3:=isAgg3
 z3:=sizeOf3
 v3:=zeroValue3
 t4:=underlying4
 a4:=isAgg4
 z4:=sizeOf4
 v4:=zeroValue4
 t5:=underlying5
 a5:=isAgg5
 z5:=sizeOf5
 v5:=zeroValue5
 t9:=underlying9
 a9:=isAgg9
 z9:=sizeOf9
 v9:=zeroValue9
 t20:=underlying20
 a20:=isAgg20
 z20:=sizeOf20
 v20:=zeroValue20
 t37:=underlying59
 a37:=isAgg59
 z37:=sizeOf59
 v37:=zeroValue59
 t46:=underlying138
 a46:=isAgg138
 z46:=sizeOf138
 v46:=zeroValue138
 t51:=underlying136
 a51:=isAgg136
 z51:=sizeOf136
 v51:=zeroValue136
 t53:=underlying125
 a53:=isAgg125
 z53:=sizeOf125
 v53:=zeroValue125
 t171:=underlying124
 a171:=isAgg124
 z171:=sizeOf124
 v171:=zeroValue124
 t173:=underlying128
 a173:=isAgg128
 z173:=sizeOf128
 v173:=zeroValue128
 t212:=underlying135
 a212:=isAgg135
 z212:=sizeOf135
 v212:=zeroValue135
 t213:=underlying137
 a213:=isAgg137
 z213:=sizeOf137
 t232:=underlying156
 a232:=isAgg156
 z232:=sizeOf156
 v232:=zeroValue156
 t233:=underlying157
 a233:=isAgg157
 z233:=sizeOf157
 v233:=zeroValue157
 g17:=by kernel_rfl
 g18:=by kernel_rfl
 g19:=by kernel_rfl
 i0:=by kernel_rfl
 i2:=by kernel_rfl
 i3:=by kernel_rfl
 i4:=by kernel_rfl
 i5:=by kernel_rfl
 i9:=by kernel_rfl
 i20:=by kernel_rfl
 i37:=by kernel_rfl
 i46:=by kernel_rfl
 i51:=by kernel_rfl
 i53:=by kernel_rfl
 i171:=by kernel_rfl
 i173:=by kernel_rfl
 i212:=by kernel_rfl
 i232:=by kernel_rfl
 i233:=by kernel_rfl
 m17:=by kernel_rfl
 m18:=by kernel_rfl
 m19:=by kernel_rfl
}
end Go.Proofs
namespace Go.Proofs.YtklbbbldalmnbaaGreatDoor.TR
open Go.RowKit Go.Lib
theorem GA(u:Nat):nDigits u<=u+1:=by
 induction u using Nat.strongRecOn with
 |_ u ih=>
  by_cases h:u<10
  ·rw[nDigits_small h];omega
  ·rw[nDigits_big h];have:=ih (u / 10) (by omega);omega
def hY(d:Nat):UInt8:=if d<10 then UInt8.ofNat (48+d)else UInt8.ofNat (87+d)
def hexDigits(u:Nat):List UInt8:=
 if h:u<16 then [hY u]else hexDigits (u / 16)++[hY (u % 16)]
termination_by u
decreasing_by omega
theorem rI(u:Nat):(hexDigits u).length<=u+1:=by
 induction u using Nat.strongRecOn with
 |_ u ih=>
  by_cases h:u<16
  ·rw[hexDigits,dif_pos h];simp
  ·rw[hexDigits,dif_neg h,List.length_append];have:=ih (u / 16) (by omega);simp;omega
def GI(n m:Nat)(B:ByteArray):Prop:=hexDigits n=hexDigits m++B.data.toList/\m<=n
theorem Aw{n m:Nat}{B:ByteArray}(h:GI n m B)(hm:¬m<16):GI n (m / 16) (⟨#[hY (m % 16)]⟩++B):=by
 refine⟨?_,by have:=h.2;omega⟩
 rw[h.1,hexDigits,dif_neg hm,List.append_assoc,ByteArray.data_append,Array.toList_append]
theorem Eu{n m:Nat}{B:ByteArray}(h:GI n m B)(hm:m<16):⟨#[hY (m % 16)]⟩++B=(⟨(hexDigits n).toArray⟩:ByteArray):=by
 apply ByteArray.ext
 rw[h.1,hexDigits,dif_pos hm,ByteArray.data_append,Nat.mod_eq_of_lt hm]
 apply Array.ext'
 rw[Array.toList_append]
theorem Gf(w:World):Calls prog 102 #[.int .i64 16] w fun e w'=>e=.returned (.bool true)/\w'=w:=by
 go_enter func102,ntmps102
 go_wp2
 go_ret
 exact⟨rfl,rfl⟩
theorem JO(w:World)(h:w.cell? ⟨2,15,none⟩=some (.int .u8 4)):Calls prog 115 #[.int .u64 16] w fun e w'=>e=.returned (.int .i64 4)/\w'=w:=by
 have hA:bits BinOp.and IntKind.u64 16 (IntKind.u64.wrap (-16))=16:=by decide +kernel
 have hB:IntKind.u64.wrap (bits BinOp.and IntKind.u64 16 (IntKind.u64.wrap (-16))*285870213051353865) / 288230376151711744=15:=by rw[hA];decide +kernel
 have h':w.cell? ⟨2,(IntKind.u64.wrap (bits BinOp.and IntKind.u64 16 (IntKind.u64.wrap (-16))*285870213051353865) / 288230376151711744).toNat,none⟩=some (.int .u8 4):=by rw[hB];exact h
 clear hA hB
 go_enter func115,ntmps115
 go_wp2
 go_ret
 exact⟨rfl,rfl⟩
theorem Kd(w:World)(h:w.cell? ⟨2,15,none⟩=some (.int .u8 4)):Calls prog 103 #[.int .u64 16] w fun e w'=>e=.returned (.int .i64 4)/\w'=w:=by
 have HC:=I (JO w h)
 clear h
 go_enter func103,ntmps103
 go_wp2_with fail
 refine HC.o.mono ?_
 rintro e w' ⟨rfl,rfl⟩
 go_wp2
 go_ret
 exact⟨rfl,rfl⟩
theorem Bw(x:Nat)(h:x<9223372036854775808):bits .and .u64 (x:Int) 15=((x % 16:Nat):Int):=by
 show IntKind.u64.wrap ((BitVec.ofInt 64 (x:Int) &&& BitVec.ofInt 64 ((15:Nat):Int)).toNat:Int)=_
 rw[BitVec.toNat_and,BitVec.ofInt_natCast,BitVec.ofInt_natCast,BitVec.toNat_ofNat,BitVec.toNat_ofNat,Nat.mod_eq_of_lt (by omega:x<2 ^ 64)]
 have e:x &&& (15 % 2 ^ 64)=x % 16:=Nat.and_two_pow_sub_one_eq_mod x 4
 rw[e,IntKind.wrap_u64]
 omega
theorem wE(d:Nat)(h:d<16)(W:World):(Instr.index 9 (.string ⟨#[48,49,50,51,52,53,54,55,56,57,97,98,99,100,101,102,103,104,105,106,107,108,109,110,111,112,113,114,115,116,117,118,119,120,121,122]⟩) (.int .u64 (d:Int))).run prog W=.ok (.int .u8 ((hY d).toNat:Int)) W:=by
 have hs:(⟨#[48,49,50,51,52,53,54,55,56,57,97,98,99,100,101,102,103,104,105,106,107,108,109,110,111,112,113,114,115,116,117,118,119,120,121,122]⟩:ByteArray).size=36:=rfl
 rw[run_index_string W 9 _ .u64 _ underlying9,dif_pos ⟨by omega,by rw[hs];omega⟩]
 rcases(by omega:d=0\/d=1\/d=2\/d=3\/d=4\/d=5\/d=6\/d=7\/d=8\/d=9\/d=10\/d=11\/d=12\/d=13\/d=14\/d=15)with rfl|rfl|rfl|rfl|rfl|rfl|rfl|rfl|rfl|rfl|rfl|rfl|rfl|rfl|rfl|rfl<;>rfl
theorem A0(l:List UInt8):strOfNums (l.map fun b=>(b.toNat:Int))=⟨l.toArray⟩:=by
 have e:((fun n:Int=>UInt8.ofNat n.toNat) ∘ fun b:UInt8=>(b.toNat:Int))=id:=by funext b;simp
 unfold strOfNums
 rw[List.map_map,e,List.map_id]
structure Jf(n:Nat)(w wr:World)(m i:Nat):Prop where
 B:∃(B:ByteArray) (arr:Array Value),GI n m B/\i+B.size=65/\wr.heap[w.heap.size]? =some (.cells arr 137)/\arr.size=65/\(∀j,j<B.size->arr[i+j]? =(B.data[j]?).map (fun b=>Value.int .u8 (b.toNat:Int)))
 Kz:59<=i/\m*16 ^ (65 - i)<=n
 G8:Below w.heap.size w wr
theorem Jf.put{n:Nat}{w wr:World}{m i2:Nat}(h:Jf n w wr m (i2+1))(hm:¬m<16)(hn:n<=1114111):Jf n w (wr.setCell ⟨w.heap.size,i2,none⟩ (.int .u8 ((hY (m % 16)).toNat:Int))) (m / 16) i2:=by
 obtain⟨⟨B,arr,hD,hs,hx,ha,hc⟩,hf,hb⟩:=h
 refine⟨⟨⟨#[hY (m % 16)]⟩++B,arr.setIfInBounds i2 (.int .u8 ((hY (m % 16)).toNat:Int)),Aw hD hm,by rw[ByteArray.size_append];have:(⟨#[hY (m % 16)]⟩:ByteArray).size=1:=rfl;omega,bd hx _ _,by simpa using ha,?_⟩,?_,hb.setCell (p:=⟨w.heap.size,i2,none⟩) (U _) _⟩
 ·intro j hj
  rw[ByteArray.data_append]
  cases j with
  |zero=>
   rw[Nat.add_zero,Array.getElem?_setIfInBounds_self_of_lt (by omega),Array.getElem?_append_left (by simp)]
   rfl
  |succ j=>
   have hj2:j<B.size:=by
    rw[ByteArray.size_append]at hj
    have:(⟨#[hY (m % 16)]⟩:ByteArray).size=1:=rfl
    omega
   have:=hc j hj2
   rw[Array.getElem?_setIfInBounds_ne (by omega),show i2+(j+1)=i2+1+j by omega,this,Array.getElem?_append_right (by simp)]
   simp
 ·have h1:=hf.2
  have h2:i2+1≠59:=fun e=>by
   rw[e]at h1
   have:m*16 ^ (65 - 59)=m*16777216:=rfl
   omega
  refine⟨by have:=hf.1;omega,?_⟩
  rw[show 65 - i2=(65 - (i2+1))+1 by omega,Nat.pow_succ,Nat.mul_comm (16 ^ _) 16, <-Nat.mul_assoc]
  exact Nat.le_trans (Nat.mul_le_mul_right _ (Nat.div_mul_le_self m 16)) h1
theorem A5{B:ByteArray}{arr:Array Value}{i2:Nat}(x:UInt8)(hs:i2+1+B.size=65)(ha:arr.size=65)(hc:∀j,j<B.size->arr[i2+1+j]? =(B.data[j]?).map (fun b=>Value.int .u8 (b.toNat:Int))):∀j,j<65 - i2->(arr.setIfInBounds i2 (.int .u8 (x.toNat:Int)))[i2+j]? =((#[x]++B.data)[j]?).map (fun b=>Value.int .u8 (b.toNat:Int)):=by
 intro j hj
 cases j with
 |zero=>
  rw[Nat.add_zero,Array.getElem?_setIfInBounds_self_of_lt (by omega),Array.getElem?_append_left (by simp)]
  rfl
 |succ j=>
  have:=hc j (by omega)
  rw[Array.getElem?_setIfInBounds_ne (by omega),show i2+(j+1)=i2+1+j by omega,this,Array.getElem?_append_right (by simp)]
  simp
theorem Jf.fin{n:Nat}{w wr:World}{m i2:Nat}(h:Jf n w wr m (i2+1))(hm:m<16):(convert 59 9 (.slice (some ⟨w.heap.size,i2,none⟩) (65 - i2) (65 - i2))).run prog (wr.setCell ⟨w.heap.size,i2,none⟩ (.int .u8 ((hY m).toNat:Int)))=.ok (.string ⟨(hexDigits n).toArray⟩) (wr.setCell ⟨w.heap.size,i2,none⟩ (.int .u8 ((hY m).toNat:Int))):=by
 obtain⟨⟨B,arr,hD,hs,hx,ha,hc⟩,hf,hb⟩:=h
 have hE:=Eu hD hm
 rw[Nat.mod_eq_of_lt hm]at hE
 have hP:=A5 (hY m) hs ha hc
 have hl:(#[hY m]++B.data).size=65 - i2:=by
  have:B.data.size=B.size:=rfl
  rw[Array.size_append,this]
  simp
  omega
 have hR:=run_convert_bytes_arg (P:=prog) (wr.setCell ⟨w.heap.size,i2,none⟩ (.int .u8 ((hY m).toNat:Int))) 59 5 underlying59 underlying5 w.heap.size i2 (65 - i2) (65 - i2) ((#[hY m]++B.data).toList.map fun b=>(b.toNat:Int)) (by rw[List.length_map,Array.length_toList,hl]) (fun j hj=>by
  have:=hP j hj
  simp only[World.cell?,bd hx]
  rw[this,Array.getElem?_eq_getElem (by omega)]
  simp only[List.getD,List.getElem?_map,Array.getElem?_toList,Array.getElem?_eq_getElem (show j<(#[hY m]++B.data).size by omega)]
  rfl) 9 underlying9
 have e:(⟨(#[hY m]++B.data).toList.toArray⟩:ByteArray)=⟨#[hY m]⟩++B:=ByteArray.ext (by rw[ByteArray.data_append])
 rw[A0,e,hE]at hR
 exact hR
theorem tD(n:Nat)(hn:n<=1114111)(w:World)(h:w.cell? ⟨2,15,none⟩=some (.int .u8 4)):Calls prog 90 #[.slice none 0 0,.int .u64 (n:Int),.int .i64 16,.bool false,.bool false] w fun e w'=>e=.returned (.tuple #[.slice none 0 0,.string ⟨(hexDigits n).toArray⟩])/\Below w.heap.size w w':=by
 have HT:=I (fun W (hW:Below w.heap.size w W)=>Kd W (aE hW (bb h) h))
 have HI:=I (fun W=>Gf W)
 have hb1:Below w.heap.size w (w.alloc (.cells Tryz.zeroCells137 137)):=(J _ w).alloc (U _) _
 obtain⟨w1,hw1⟩:∃w1,w1=w.alloc (.cells Tryz.zeroCells137 137):=⟨_,rfl⟩
 have HX1:Hid (w1.heap[w.heap.size]? =some (.cells Tryz.zeroCells137 137)):=by show _=_;rw[hw1];exact aj _ _
 rw[<- hw1]at hb1
 have HB1:=I hb1
 clear h hb1
 go_enter func90,ntmps90
 go_wp2_with fail
 rw[<- hw1]
 clear hw1
 refine(HI.o _).mono ?_
 rintro e w2 ⟨rfl,hh⟩
 subst hh
 go_wp2_with fail
 refine(HT.o _ HB1.o).mono ?_
 rintro e w3 ⟨rfl,hh⟩
 subst hh
 go_wp2
 go_loopw [1,13] (fun u iv wr=>∃(m i:Nat),u=.int .u64 (m:Int)/\iv=.int .i64 (i:Int)/\Jf n w wr m i) (fun u _ _=>(intOf u).toNat)
 case atStart=>exact⟨n,65,rfl,rfl,⟨⟨⟨#[]⟩,_,⟨by simp,U _⟩,rfl,HX1.o,by kernel_rfl,fun j hj=>absurd hj (Nat.not_lt_zero _)⟩,⟨by omega,by simp⟩,HB1.o⟩⟩
 case round=>
  obtain⟨m,i,rfl,rfl,hF⟩:=hrel
  obtain⟨w4,hw4⟩:∃w4,w4=wr:=⟨_,rfl⟩
  subst hw4
  have HF:=I hF
  obtain⟨⟨B,arr,hD,hs,hx,ha,hc⟩,hf,hb⟩:=hF
  have hmn:=hD.2
  obtain⟨i2,rfl⟩:∃i2,i=i2+1:=⟨i - 1,by omega⟩
  have hi2:i2<65:=by omega
  have hie:((i2+1:Nat):Int) - 1=(i2:Int):=by omega
  have hia:(0:Int)<=(i2:Int):=by omega
  have hib:(i2:Int)<65:=by omega
  have hil:(i2:Int)<=65:=by omega
  have hne:¬65=i2:=by omega
  obtain⟨old,hold⟩:∃old,w4.cell? ⟨w.heap.size,i2,none⟩=some old:=⟨arr[i2]'(by omega),by simp[World.cell?,hx,ha,hi2]⟩
  have hfr:∀o,w4.frozen? ⟨w.heap.size,o,none⟩=false:=fun o=>by simp[World.frozen?,hx]
  clear hD hs hx ha hc hf hb B arr
  by_cases h16:16<=m
  ·have e1:(16:Int)<=(m:Int):=by omega
   obtain⟨r,hr⟩:∃r,r=m % 16:=⟨_,rfl⟩
   have hand:=Bw m (by omega)
   have hix:=wE r (by omega)
   rw[<- hr]at hand
   have HN:=I (HF.o.put (by omega) hn)
   rw[<- hr]at HN
   obtain⟨p,hp⟩:∃p:Int,p=((hY r).toNat:Int):=⟨_,rfl⟩
   rw[<- hp]at HN hix
   clear hr hp HF
   go_wp2
   go_roundw
   case rel=>exact⟨m / 16,i2,by go_num,rfl,HN.o⟩
   case measure=>simp[intOf];omega
  ·have e1:¬(16:Int)<=(m:Int):=by omega
   have hix:=wE m (by omega)
   have hcv:=HF.o.fin (by omega)
   have HBw:Hid (Below w.heap.size w (w4.setCell ⟨w.heap.size,i2,none⟩ (.int .u8 ((hY m).toNat:Int)))):=HF.o.G8.setCell (p:=⟨w.heap.size,i2,none⟩) (U _) _
   obtain⟨p,hp⟩:∃p:Int,p=((hY m).toNat:Int):=⟨_,rfl⟩
   rw[<- hp]at hix hcv HBw
   obtain⟨RS,hRS⟩:∃RS:ByteArray,RS=⟨(hexDigits n).toArray⟩:=⟨_,rfl⟩
   rw[<- hRS]at hcv
   have HRS:=I hRS
   clear hp hRS HF
   go_wp2
   go_ret2
   exact⟨by rw[<- HRS.o];rfl,HBw.o⟩
theorem A7(n:Nat)(hn:n<=1114111)(w:World)(h:w.cell? ⟨2,15,none⟩=some (.int .u8 4)):Calls prog 80 #[.int .i64 (n:Int),.int .i64 16] w fun e w'=>e=.returned (.string ⟨(hexDigits n).toArray⟩)/\Below w.heap.size w w':=by
 have HC:=I (tD n hn w h)
 have e1:¬(n:Int)<0:=by omega
 have e2:IntKind.u64.wrap (n:Int)=(n:Int):=by rw[IntKind.wrap_u64];omega
 have e3:(n:Int)<=1114111:=by omega
 clear h
 go_enter func80,ntmps80
 go_wp2_with fail
 refine HC.o.mono ?_
 rintro e w' ⟨rfl,hb⟩
 have HB:=I hb
 clear hb
 go_wp2
 go_ret
 exact⟨rfl,HB.o⟩
theorem Dt(n:Nat)(hn:n<=1114111)(w:World)(h:w.cell? ⟨2,15,none⟩=some (.int .u8 4)):Calls prog 71 #[.int .i64 (n:Int),.int .i64 16] w fun e w'=>e=.returned (.string ⟨(hexDigits n).toArray⟩)/\Below w.heap.size w w':=by
 have HC:=I (A7 n hn w h)
 clear h
 go_enter func71,ntmps71
 go_wp2_with fail
 refine HC.o.mono ?_
 rintro e w' ⟨rfl,hb⟩
 have HB:=I hb
 clear hb
 go_wp2
 go_ret
 exact⟨rfl,HB.o⟩
theorem Hl(n:Nat)(hn:n<=1114111)(w:World)(h:w.cell? ⟨2,15,none⟩=some (.int .u8 4)):Calls prog 60 #[.int .i64 (n:Int)] w fun e w'=>e=.returned (.string ⟨(hexDigits n).toArray⟩)/\Below w.heap.size w w':=by
 have HC:=I (Dt n hn w h)
 clear h
 go_enter func60,ntmps60
 go_wp2_with fail
 refine HC.o.mono ?_
 rintro e w' ⟨rfl,hb⟩
 have HB:=I hb
 clear hb
 go_wp2
 go_ret
 exact⟨rfl,HB.o⟩
end Go.Proofs.YtklbbbldalmnbaaGreatDoor.TR
namespace Go.Proofs.YtklbbbldalmnbaaGreatDoor.TR
open Go.RowKit
theorem Ai:(Tryz.prog.info? 61).map (·.size)=some 2:=by kernel_rfl
theorem FQ:liesAt prog Tryz.prog.depth 63 (3 / Tryz.prog.cellsOf 63) 0 61 1=true:=by kernel_rfl
theorem xt:(Tryz.prog.info? 5).map (fun i=>(i.zero,i.size,i.bytes))=some (some (.int .u8 0),1,1):=by kernel_rfl
theorem Bs:Tryz.prog.cellsOf 5=1:=by kernel_rfl
theorem zH{o:Option TypeInfo}{z:Option Value}{s b:Nat}(h:o.map (fun i=>(i.zero,i.size,i.bytes))=some (z,s,b)):∃i,o=some i/\i.zero=z/\i.size=s/\i.bytes=b:=by
 cases o with
 |none=>simp at h
 |some i=>simp at h;exact⟨i,rfl,h.1,h.2.1,h.2.2⟩
def WB(B b:Nat)(p:Value)(bs:List Value)(nm:Value)(w:World):Prop:=
 B<=b/\∃v,w.heap[b]? =some (.cells #[p,v,nm] 63 (0,0))/\w.ownsRow B 5 1 v bs.length bs/\v.ownBlock≠some b
def CM(B b:Nat)(bs:List Value)(nm:Value)(w:World):Prop:=WB B b (.pointer none) bs nm w\/WB B b (.pointer (some ⟨b,0,none⟩)) bs nm w
theorem lH{w:World}{b:Nat}{p v nm:Value}{e:TypeId}(h:w.heap[b]? =some (.cells #[p,v,nm] e (0,0))):w.cell? ⟨b,0,none⟩=some p/\w.cell? ⟨b,1,none⟩=some v/\w.cell? ⟨b,2,none⟩=some nm/\∀o,w.frozen? ⟨b,o,none⟩=false:=by
 refine⟨?_,?_,?_,fun o=>?_⟩<;>simp[World.cell?,World.frozen?,h]
theorem Gv{w:World}{N:Nat}{cs:Array Value}{e:TypeId}{fr:Nat×Nat}(h:w.heap[N]? =some (.cells cs e fr))(o:Nat)(v:Value):(w.setCell ⟨N,o,none⟩ v).heap[N]? =some (.cells (cs.setIfInBounds o v) e fr):=by
 have hlt:=lt_of_block h
 have h':w.heap[N]=.cells cs e fr:=by simpa[Array.getElem?_eq_getElem hlt]using h
 show(w.heap.modify N _)[N]? =_
 rw[Array.getElem?_eq_getElem (by simpa using hlt),Array.getElem_modify_self,h']
 rfl
theorem uu{w:World}{B e k n:Nat}{v:Value}{xs:List Value}{b o:Nat}{u:Value}(h:w.ownsRow B e k v n xs)(hb:v.ownBlock≠some b):(w.setCell ⟨b,o,none⟩ u).ownsRow B e k v n xs:=by
 obtain⟨h1,h2⟩:=h
 refine⟨h1,?_⟩
 rcases h2 with h2|⟨g,cap,cur,hv,hg,hh,r⟩
 ·exact .inl h2
 ·refine .inr ⟨g,cap,cur,hv,hg,?_,r⟩
  rw[Below.heap_setCell _ _ _ _ (fun e=>hb (by rw[hv];simp[Value.ownBlock];exact e))]
  exact hh
theorem qc(b:Nat)(w:World)(h0:w.cell? ⟨b,0,none⟩=some (.pointer (some ⟨b,0,none⟩))):
  Calls prog 74 #[.pointer (some ⟨b,0,none⟩)] w fun e w'=>e=.returned (.tuple #[])/\w'=w:=by
 obtain⟨j,hj,_⟩:=Option.map_eq_some_iff.1 Ai
 go_enter func74,ntmps74
 go_wp2
 rw[Lib.run_neq_ptr_same w _ underlying58 hj]
 go_wp2
 go_end0
 exact⟨rfl,rfl⟩
theorem oD(b:Nat)(w:World)(h0:w.cell? ⟨b,0,none⟩=some (.pointer none))(hsh:w.shape? b=some (63,3))(hfz:w.frozen? ⟨b,0,none⟩=false):
  Calls prog 74 #[.pointer (some ⟨b,0,none⟩)] w fun e w'=>e=.returned (.tuple #[])/\w'=w.setCell ⟨b,0,none⟩ (.pointer (some ⟨b,0,none⟩)):=by
 obtain⟨j,hj,hjs⟩:=Option.map_eq_some_iff.1 Ai
 go_enter func74,ntmps74
 go_wp2
 rw[Lib.run_to_unsafe w ⟨b,0,none⟩ underlying58 underlying115 hj (by rw[hjs];decide) hsh (by show 0<3;omega)]
 simp only[Result.andThen]
 rw[Oper.upon_value]
 go_wp2
 rw[run_callFunc_extern func82 (by kernel_rfl) (by kernel_rfl) (by kernel_rfl) (e:=Extern.AbiNoEscape.same) (by kernel_rfl)]
 rw[Lib.run_noEscape]
 simp only[Result.andThen]
 rw[Oper.upon_value]
 go_wp2
 rw[Lib.run_from_unsafe w ⟨b,0,none⟩ underlying115 underlying58 hj hsh FQ]
 simp only[Result.andThen]
 rw[Oper.upon_value]
 go_wp2
 go_end0
 exact⟨rfl,rfl⟩
theorem AY(B b:Nat)(bs:List Value)(nm:Value)(w:World)(h:CM B b bs nm w):
  Calls prog 74 #[.pointer (some ⟨b,0,none⟩)] w fun e w'=>e=.returned (.tuple #[])/\WB B b (.pointer (some ⟨b,0,none⟩)) bs nm w'/\Below B w w':=by
 rcases h with⟨hB,v,hbk,hown,hne⟩|⟨hB,v,hbk,hown,hne⟩
 ·obtain ⟨c0,c1,c2,cf⟩:=lH hbk
  refine(oD b w c0 (by simp[World.shape?,hbk]) (cf 0)).mono ?_
  rintro e w' ⟨rfl,rfl⟩
  exact⟨rfl,⟨hB,v,by rw[Gv hbk];rfl,uu hown hne,hne⟩,(J B w).setCell (p:=⟨b,0,none⟩) hB _⟩
 ·obtain ⟨c0,c1,c2,cf⟩:=lH hbk
  refine(qc b w c0).mono ?_
  rintro e w' ⟨rfl,rfl⟩
  exact⟨rfl,⟨hB,v,hbk,hown,hne⟩,J B _⟩
theorem Dw(B b:Nat)(bs:List Value)(nm:Value)(s:ByteArray)(w:World)(h:CM B b bs nm w)(hlen:bs.length+s.size<=140737488355328)(hBw:B<=w.heap.size):
  Calls prog 64 #[.pointer (some ⟨b,0,none⟩),.string s] w fun e w'=>e=.returned (.tuple #[.int .i64 s.size,.nilIface])/\WB B b (.pointer (some ⟨b,0,none⟩)) (bs++Lib.strCells s) nm w'/\Below B w w':=by
 obtain⟨i0,hi,hz0,hz1,hz2⟩:=zH xt
 have HC:=I (AY B b bs nm w h)
 clear h
 go_enter func64,ntmps64
 go_wp2_with fail
 refine HC.o.mono ?_
 rintro e w1 ⟨rfl,⟨hB,v,hbk,hown,hne⟩,hb1⟩
 obtain⟨c0,c1,c2,cf⟩:=lH hbk
 have hs1:=hb1.size
 have HB1:=I hb1
 have HO:=I hown
 have HK:=I hbk
 have HNe:=I hne
 clear hb1 hown hbk hne HC
 go_wp2_with (at_builtin;refine Lib.wpList_append_own_string _ rfl _ _ 59 9 rfl B 5 i0 underlying59 underlying9 hi hz0 hz1 hz2 _ _ _ rfl HO.o s rfl (by unfold maxLen;omega) (by omega) (by omega) ?_)
 intro v' w2 hown' hgrow _
 have hlt:b<w1.heap.size:=lt_of_block HK.o
 have hb2:w2.heap[b]? =some (.cells #[.pointer (some ⟨b,0,none⟩),v,nm] 63 (0,0)):=by
  rw[hgrow.block b hlt (fun e=>HNe.o e.symm)]
  exact HK.o
 obtain⟨d0,d1,d2,df⟩:=lH hb2
 obtain⟨ao,n',cap,rfl⟩:∃ao n' cap,v'=.slice ao n' cap:=by
  rcases hown'.2 with⟨hv,_⟩|⟨g,cap,cur,hv,_⟩
  ·exact⟨_,_,_,hv⟩
  ·exact⟨_,_,_,hv⟩
 have HO2:=I hown'
 have HK2:=I hb2
 have HB2:=I (HB1.o.grown hgrow (by omega) (fun k hk=>(HO.o.lt k hk).1))
 have hne2:Hid ((Value.slice ao n' cap).ownBlock≠some b):=fun e=>by
  rcases hown'.2 with⟨hv,_⟩|⟨g,cap',cur,hv,_,hh,_⟩
  ·rw[hv]at e;simp[Value.ownBlock]at e
  ·rw [hv]at e
   simp[Value.ownBlock]at e
   rw[e,hb2]at hh
   simp at hh
 clear hown' hgrow hb2 c0 c1 c2 cf
 go_wp2
 go_ret2
 refine⟨rfl,⟨hB,_,by rw[Gv HK2.o];rfl,?_,hne2.o⟩,HB2.o.setCell (p:=⟨b,1,none⟩) hB _⟩
 have:=uu (o:=1) (u:=.slice ao n' cap) HO2.o hne2.o
 simpa[Lib.strCells_length]using this
theorem xe(B b:Nat)(p nm:Value)(l:List UInt8)(w:World)(h:WB B b p (Lib.byteCells l) nm w)(h0:l≠[]):
  Calls prog 26 #[.pointer (some ⟨b,0,none⟩)] w fun e w'=>e=.returned (.string ⟨l.toArray⟩)/\Below B w w':=by
 obtain⟨hB,v,hbk,hown,hne⟩:=h
 have hl0:l.length≠0:=by simpa using h0
 rw[Lib.byteCells_length]at hown
 obtain⟨g,cap,cur,rfl,hbg,hg,hnc,hcm,hcs,htake⟩:∃g cap cur,v=.slice (some ⟨g,0,none⟩) l.length cap/\B<=g/\w.heap[g]? =some (.cells cur 5 (0,0))/\l.length<=cap/\cap<=maxLen/\cur.size=cap*1/\cur.toList.take (l.length*1)=Lib.byteCells l:=by
  rcases hown.2 with⟨_,hz⟩|⟨g,cap,cur,hv,r⟩
  ·exact absurd hz hl0
  ·exact⟨g,cap,cur,hv,r⟩
 have c1:w.drew.cell? ⟨b,1,none⟩=some (.slice (some ⟨g,0,none⟩) l.length cap):=(lH hbk).2.1
 have hSD:(Builtin.unsafeSliceData_ #[59] 87 #[.slice (some ⟨g,0,none⟩) l.length cap]).run prog w.drew=.ok (.pointer (some ⟨g,0,none⟩)) w.drew:=
  Lib.run_unsafeSliceData_row _ _ _ _ _ _ (by omega)
 have hUS:(Builtin.unsafeString_ #[87,3] 9 #[.pointer (some ⟨g,0,none⟩),.int .i64 l.length]).run prog w.drew=.ok (.string ⟨l.toArray⟩) (w.drew.freeze ⟨g,0,none⟩ l.length):=by
  refine Lib.run_unsafeString_row w.drew 87 3 9 5 underlying87 Bs g cur.size (by have hg':w.drew.heap[g]? =some (.cells cur 5 (0,0)):=hg;simp[World.shape?,hg']) l h0 (by omega) (by unfold maxLen at hcm;omega) ?_
  intro j x hx
  have:=hown.cells (g:=g) rfl j (.int .u8 x.toNat) (by simp[Lib.byteCells,hx])
  exact this
 have HBG:=I hbg
 obtain⟨m,hm⟩:∃m,m=l.length:=⟨_,rfl⟩
 rw[<- hm]at c1 hSD hUS
 clear hbk hown hg hnc hcm hcs htake hbg hm hl0 hne hB h0
 go_enter func26,ntmps26
 go_wp2
 go_region
 all_goals (go_wp2;go_ret;exact⟨rfl,Lib.below_freeze (Below.drew (J B w)) (p:=⟨g,0,none⟩) HBG.o _⟩)
theorem CR(B b:Nat)(bs:List Value)(nm:Value)(s:ByteArray)(g:Nat)(w:World)(h:CM B b bs nm w)(hg:w.cell? ⟨g,0,none⟩=some (.string s))(hlen:bs.length+s.size<=140737488355328)(hBw:B<=w.heap.size):
  Calls prog 43 #[.pointer (some ⟨b,0,none⟩),.slice (some ⟨g,0,none⟩) 1 1] w fun e w'=>e=.returned (.tuple #[])/\WB B b (.pointer (some ⟨b,0,none⟩)) (bs++Lib.strCells s) nm w'/\Below B w w':=by
 have HC:=I (Dw B b bs nm s w h hlen hBw)
 clear h hlen hBw
 go_enter func43,ntmps43
 go_wp2
 go_loopw [8] (fun c wr=>(c=.int .i64 0/\wr=w)\/(c=.int .i64 1/\WB B b (.pointer (some ⟨b,0,none⟩)) (bs++Lib.strCells s) nm wr/\Below B w wr)) (fun c _=>1 - (intOf c).toNat)
 case atStart=>exact .inl ⟨rfl,rfl⟩
 case round=>
  rcases hrel with⟨rfl,hwr⟩|⟨rfl,hw1,hb1⟩
  ·subst hwr
   go_wp2_with fail
   refine HC.o.mono ?_
   rintro e w2 ⟨rfl,hW,hb⟩
   have HW:=I hW
   have HB:=I hb
   clear hW hb HC
   go_wp2
   go_roundw
   case rel=>exact .inr ⟨rfl,HW.o,HB.o⟩
   case measure=>simp[intOf]
  ·have HW:=I hw1
   have HB:=I hb1
   clear hw1 hb1 HC
   go_wp2
   first|(go_end0;exact⟨rfl,HW.o,HB.o⟩)|exact⟨rfl,_,rfl,rfl,HW.o,HB.o⟩|exact⟨rfl,rfl,HW.o,HB.o⟩
abbrev jq(k:Int):NV:=⟨k,none,0,0,none,0,0,0,0,0,0,false⟩
abbrev vK(k:Int):Tr:=.mk k 0 0 0 0 false [] []
theorem Hm(k:Int)(w:World):aV w (jq k) (vK k):=
 .mk (jq k) [] [] (fun _=>jq 0) (.inl ⟨rfl,rfl⟩) (.inl ⟨rfl,rfl,rfl,rfl⟩) (fun j hj=>by simp at hj)
theorem WB.ar{B b:Nat}{p nm:Value}{bs:List Value}{w w':World}(h:WB B b p bs nm w)(hb:Below w.heap.size w w'):WB B b p bs nm w':=by
 obtain⟨h1,v,h2,h3,h4⟩:=h
 exact⟨h1,v,by rw[hb.block _ (lt_of_block h2)];exact h2,nr h3 hb,h4⟩
theorem CM.ar{B b:Nat}{nm:Value}{bs:List Value}{w w':World}(h:CM B b bs nm w)(hb:Below w.heap.size w w'):CM B b bs nm w':=by
 rcases h with h|h
 ·exact .inl (h.ar hb)
 ·exact .inr (h.ar hb)
theorem Jj(w:World):Calls prog 45 #[.int .i64 3] w fun e w'=>e=.returned (.string ⟨#[94]⟩)/\w'=w:=by
 go_enter func45,ntmps45
 go_wp2
 go_ret
 exact⟨rfl,rfl⟩
theorem B8(B b:Nat)(bs:List Value)(nm:Value)(w:World)(h:CM B b bs nm w)(hlen:bs.length<=1000000)(hBw:B<=w.heap.size):
  Calls prog 25 #[.pointer (some ⟨b,0,none⟩),cz (jq 3)] w fun e w'=>e=.returned (.tuple #[])/\WB B b (.pointer (some ⟨b,0,none⟩)) (bs++Lib.strCells ⟨#[94]⟩) nm w'/\Below B w w':=by
 obtain⟨w1,hw1⟩:∃w1,w1=w.alloc (aG (jq 3)):=⟨_,rfl⟩
 have hX1:w1.heap[w.heap.size]? =some (aG (jq 3)):=by rw[hw1];exact aj _ _
 have hb1:Below w.heap.size w w1:=by rw[hw1];exact(J _ w).alloc (U _) _
 obtain⟨w2,hw2⟩:∃w2,w2=w1.alloc (.cells #[.string ⟨#[94]⟩] 9):=⟨_,rfl⟩
 have hX2:w2.heap[w1.heap.size]? =some (.cells #[.string ⟨#[94]⟩] 9):=by rw[hw2];exact aj _ _
 have hb2:Below w1.heap.size w1 w2:=by rw[hw2];exact(J _ w1).alloc (U _) _
 have hs1:=hb1.size
 have HA:=I (CR B b bs nm ⟨#[94]⟩ w1.heap.size w2 ((h.ar hb1).ar hb2) (by simp[World.cell?,hX2]) (by have:(ByteArray.mk #[94]).size=1:=rfl;omega) (by have:=hb2.size;omega))
 have HB2:=I (show Below B w w2 from(hb1.mono hBw).trans (hb2.mono (by omega)))
 obtain⟨d0,d1,d2,d3,d4,d5,d6,d7⟩:=ak hX1
 simp only[aG]at hw1
 clear h hlen hb1 hb2 hX1 hX2 hs1
 go_enter func25,ntmps25
 go_upto_region 1 with fail
 rw[<- hw1]
 clear hw1
 go_wp2_with fail
 refine(Jj _).mono ?_
 rintro e w' ⟨rfl,hh⟩
 subst hh
 go_wp2_with fail
 rw[<- hw2]
 clear hw2
 refine HA.o.mono ?_
 rintro e w3 ⟨rfl,hW,hb3⟩
 have HW:=I hW
 have HB3:=I (HB2.o.trans hb3)
 clear hW hb3 HA HB2 d0 d1 d2 d3 d4 d5 d6 d7
 go_wp2
 go_end0
 exact⟨rfl,HW.o,HB3.o⟩
theorem He:px (vK 3) 0=0:=by decide
theorem AL(w:World):Calls prog 17 #[yB (jq 3) 0] w fun e w'=>e=.returned (.tuple #[.string ⟨#[94]⟩,.int .i64 0])/\Below w.heap.size w w':=by
 obtain⟨w1,hw1⟩:∃w1,w1=w.alloc (j6 (jq 3) 0):=⟨_,rfl⟩
 have hX1:w1.heap[w.heap.size]? =some (j6 (jq 3) 0):=by rw[hw1];exact aj _ _
 have hb1:Below w.heap.size w w1:=by rw[hw1];exact(J _ w).alloc (U _) _
 have HC:=I (rC (jq 3) (vK 3) 0 w1 (Hm 3 w1))
 rw[He]at HC
 have HB1:=I hb1
 have HX1:=I hX1
 obtain⟨⟨d0,d1,d2,d3,d4,d5,d6,d7⟩,d8,d9⟩:=fX hX1
 simp only[j6]at hw1
 simp only[yB]at HC |-
 clear hb1 hX1
 go_enter func17,ntmps17
 go_upto_region 1 with fail
 rw[<- hw1]
 clear hw1
 go_wp2_with fail
 refine HC.o.mono ?_
 rintro e w2 ⟨rfl,hb2⟩
 have HB2:=I (HB1.o.trans (hb2.mono HB1.o.size))
 have HX2:=I (show w2.heap[w.heap.size]? =some (j6 (jq 3) 0) by rw[hb2.block _ (lt_of_block HX1.o)];exact HX1.o)
 clear hb2 HC HB1 HX1 d0 d1 d2 d3 d4 d5 d6 d7 d8 d9
 obtain⟨⟨d0,d1,d2,d3,d4,d5,d6,d7⟩,d8,d9⟩:=fX HX2.o
 obtain⟨w3,hw3⟩:∃w3,w3=w2.alloc (.cells #[.pointer none,.slice none 0 0,.slice none 0 0] 63):=⟨_,rfl⟩
 have hK3:w3.heap[w2.heap.size]? =some (.cells #[.pointer none,.slice none 0 0,.slice none 0 0] 63):=by rw[hw3];exact aj _ _
 have hb3:Below w2.heap.size w2 w3:=by rw[hw3];exact(J _ w2).alloc (U _) _
 have hW3:CM w2.heap.size w2.heap.size [] (.slice none 0 0) w3:=.inl ⟨U _,_,hK3,World.ownsRow_nil _ _ _ _,by simp[Value.ownBlock]⟩
 have HN:=I (B8 w2.heap.size w2.heap.size [] (.slice none 0 0) w3 hW3 (by simp) hb3.size)
 have HX3:=I (show w3.heap[w.heap.size]? =some (j6 (jq 3) 0) by rw[hb3.block _ (lt_of_block HX2.o)];exact HX2.o)
 have HB3:=I hb3
 obtain⟨b,hb⟩:∃b,b=w2.heap.size:=⟨_,rfl⟩
 rw[<- hb]at HN HB3
 have hwb:w.heap.size<=b:=by rw[hb];exact HB2.o.size
 clear hb3 hW3 hK3 d0 d1 d2 d3 d4 d5 d6 d7 d8
 go_upto_region 5 with fail
 rw[<- hw3, <-hb]
 clear hw3 hb
 obtain⟨⟨d0,d1,d2,d3,d4,d5,d6,d7⟩,d8,d9⟩:=fX HX3.o
 simp only[cz]at HN
 go_wp2_with fail
 refine HN.o.mono ?_
 rintro e w4 ⟨rfl,hW4,hb4⟩
 have HS:=I (xe b b _ _ [94] w4 (show WB b b (.pointer (some ⟨b,0,none⟩)) (Lib.byteCells [94]) (.slice none 0 0) w4 from hW4) (by simp))
 have HB4:=I (show Below w.heap.size w w4 from HB2.o.trans ((HB3.o.trans hb4).mono hwb))
 clear hW4 hb4 HN d0 d1 d2 d3 d4 d5 d6 d7 d8 d9
 go_wp2_with fail
 refine HS.o.mono ?_
 rintro e w5 ⟨rfl,hb5⟩
 have HB5:=I (show Below w.heap.size w w5 from HB4.o.trans (hb5.mono hwb))
 clear hb5 HS
 go_wp2
 go_ret2
 exact⟨rfl,HB5.o⟩
theorem Ca:gd (vK 1)=1:=by decide
theorem rH(w:World):Calls prog 16 #[] w fun e w'=>e=.returned (.bool true)/\Below w.heap.size w w':=by
 have HS:=I (AL w)
 have HN:=I (fun W=>om (jq 1) (vK 1) W (Hm 1 W))
 rw[Ca]at HN
 simp only[yB]at HS
 simp only[cz]at HN
 go_enter func16,ntmps16
 go_wp2_with fail
 refine HS.o.mono ?_
 rintro e w2 ⟨rfl,hb2⟩
 have HB2:=I hb2
 clear hb2 HS
 go_wp2_with fail
 refine(HN.o w2).mono ?_
 rintro e w3 ⟨rfl,hb3⟩
 have HB3:=I (HB2.o.trans (hb3.mono HB2.o.size))
 clear hb3 HN
 go_wp2
 go_ret
 exact⟨rfl,HB3.o⟩
end Go.Proofs.YtklbbbldalmnbaaGreatDoor.TR
namespace Go.Proofs.YtklbbbldalmnbaaGreatDoor.TR
open Go.RowKit
open Go.Lib (byteCells byteCells_append byteCells_length)
def Kp(b:Nat)(w w':World):Prop:=∀k cs T fr,k≠b->T≠5->w.heap[k]? =some (.cells cs T fr)->w'.heap[k]? =some (.cells cs T fr)
theorem Kp.refl(b:Nat)(w:World):Kp b w w:=fun _ _ _ _ _ _ h=>h
theorem Kp.trans{b:Nat}{w w' w'':World}(h:Kp b w w')(h':Kp b w' w''):Kp b w w'':=fun k cs T fr a c d=>h' k cs T fr a c (h k cs T fr a c d)
theorem Kp.below{b:Nat}{w w':World}(h:Below w.heap.size w w'):Kp b w w':=fun k cs T fr _ _ d=>by rw[h.block _ (lt_of_block d)];exact d
theorem Kp.set{b o:Nat}{w:World}{v:Value}:Kp b w (w.setCell ⟨b,o,none⟩ v):=fun k cs T fr a _ d=>by rw[Below.heap_setCell _ _ _ _ a];exact d
def Wr(B b:Nat)(l:List UInt8)(nm:Value)(w:World):Prop:=CM B b (byteCells l) nm w
theorem Wr.ar{B b:Nat}{l:List UInt8}{nm:Value}{w w':World}(h:Wr B b l nm w)(hb:Below w.heap.size w w'):Wr B b l nm w':=CM.ar h hb
theorem Wr.lt{B b:Nat}{l:List UInt8}{nm:Value}{w:World}(h:Wr B b l nm w):B<=b/\b<w.heap.size:=by
 rcases h with⟨h1,v,h2,_⟩|⟨h1,v,h2,_⟩<;>exact⟨h1,lt_of_block h2⟩
def cu(B b:Nat)(l:List UInt8)(nm:Value)(w w':World):Prop:=Wr B b l nm w'/\Below B w w'/\Kp b w w'
theorem cu.trans{B b:Nat}{l l':List UInt8}{nm:Value}{w w' w'':World}(h:cu B b l nm w w')(h':cu B b l' nm w' w''):cu B b l' nm w w'':=⟨h'.1,h.2.1.trans h'.2.1,h.2.2.trans h'.2.2⟩
theorem cu.nil{B b:Nat}{l:List UInt8}{nm:Value}{w:World}(h:Wr B b l nm w):cu B b l nm w w:=⟨h,J _ _,Kp.refl _ _⟩
theorem cu.put{B b:Nat}{l:List UInt8}{nm:Value}{w w':World}(h:Wr B b l nm w)(hb:Below w.heap.size w w'):cu B b l nm w w':=⟨h.ar hb,hb.mono (by have:=h.lt;omega),Kp.below hb⟩
theorem cu.then{B b:Nat}{l:List UInt8}{nm:Value}{w w' w'':World}(h:cu B b l nm w w')(hb:Below w'.heap.size w' w''):cu B b l nm w w'':=h.trans (cu.put h.1 hb)
theorem DT(B b:Nat)(bs:List Value)(nm:Value)(w:World)(h:CM B b bs nm w):
  Calls prog 74 #[.pointer (some ⟨b,0,none⟩)] w fun e w'=>e=.returned (.tuple #[])/\WB B b (.pointer (some ⟨b,0,none⟩)) bs nm w'/\Below B w w'/\Kp b w w':=by
 rcases h with⟨hB,v,hbk,hown,hne⟩|⟨hB,v,hbk,hown,hne⟩
 ·obtain ⟨c0,c1,c2,cf⟩:=lH hbk
  refine(oD b w c0 (by simp[World.shape?,hbk]) (cf 0)).mono ?_
  rintro e w' ⟨rfl,rfl⟩
  exact⟨rfl,⟨hB,v,by rw[Gv hbk];rfl,uu hown hne,hne⟩,(J B w).setCell (p:=⟨b,0,none⟩) hB _,Kp.set⟩
 ·obtain ⟨c0,c1,c2,cf⟩:=lH hbk
  refine(qc b w c0).mono ?_
  rintro e w' ⟨rfl,rfl⟩
  exact⟨rfl,⟨hB,v,hbk,hown,hne⟩,J B _,Kp.refl _ _⟩
theorem C3{B e k n:Nat}{w:World}{v:Value}{xs:List Value}(h:w.ownsRow B e k v n xs){g:Nat}(hg:v.ownBlock=some g):∃cur,w.heap[g]? =some (.cells cur e (0,0)):=by
 rcases h.2 with⟨rfl,_⟩|⟨g',cap,cur,rfl,_,hh,_⟩
 ·cases hg
 ·have :g'=g:=Option.some.inj hg
  subst this
  exact⟨_,hh⟩
theorem Gr(B b:Nat)(l:List UInt8)(nm:Value)(s:List UInt8)(w:World)(h:Wr B b l nm w)(hlen:l.length+s.length<=140737488355328)(hBw:B<=w.heap.size):
  Calls prog 64 #[.pointer (some ⟨b,0,none⟩),.string ⟨s.toArray⟩] w fun e w'=>e=.returned (.tuple #[.int .i64 s.length,.nilIface])/\cu B b (l++s) nm w w':=by
 obtain⟨i0,hi,hz0,hz1,hz2⟩:=zH xt
 have HC:=I (DT B b (byteCells l) nm w h)
 obtain⟨S,hS⟩:∃S:ByteArray,S=⟨s.toArray⟩:=⟨_,rfl⟩
 have hSs:S.size=s.length:=by rw[hS];exact List.size_toArray
 have HSc:Hid (byteCells l++Lib.strCells S=byteCells (l++s)):=by show _=_;rw[hS,byteCells_append];rfl
 have HL:Hid ((byteCells l).length=l.length):=byteCells_length l
 have hSl:(s.length:Int)=(S.size:Int):=by omega
 have hSl2:s.length=S.size:=hSs.symm
 rw[<- hS,hSl]
 rw[hSl2]at hlen
 have hlen2:(byteCells l).length+S.size<=140737488355328:=by rw[HL.o];exact hlen
 obtain⟨bs,hbs⟩:∃bs,bs=byteCells l:=⟨_,rfl⟩
 rw[<- hbs]at HC HSc hlen2
 clear h hS hSs hSl hSl2 HL hbs hlen
 go_enter func64,ntmps64
 go_wp2_with fail
 refine HC.o.mono ?_
 rintro e w1 ⟨rfl,⟨hB,v,hbk,hown,hne⟩,hb1,hkp1⟩
 obtain⟨c0,c1,c2,cf⟩:=lH hbk
 have hs1:=hb1.size
 have HB1:=I hb1
 have HO:=I hown
 have HK:=I hbk
 have HNe:=I hne
 have HKP:=I hkp1
 clear hb1 hown hbk hne HC hkp1
 go_wp2_with (at_builtin;refine Lib.wpList_append_own_string _ rfl _ _ 59 9 rfl B 5 i0 underlying59 underlying9 hi hz0 hz1 hz2 _ _ _ rfl HO.o S rfl (by unfold maxLen;omega) (by omega) (by omega) ?_)
 intro v' w2 hown' hgrow _
 have hlt:b<w1.heap.size:=lt_of_block HK.o
 have hb2:w2.heap[b]? =some (.cells #[.pointer (some ⟨b,0,none⟩),v,nm] 63 (0,0)):=by
  rw[hgrow.block b hlt (fun e=>HNe.o e.symm)]
  exact HK.o
 obtain⟨d0,d1,d2,df⟩:=lH hb2
 obtain⟨ao,n',cap,rfl⟩:∃ao n' cap,v'=.slice ao n' cap:=by
  rcases hown'.2 with⟨hv,_⟩|⟨g,cap,cur,hv,_⟩
  ·exact⟨_,_,_,hv⟩
  ·exact⟨_,_,_,hv⟩
 have HO2:=I hown'
 have HK2:=I hb2
 have HB2:=I (HB1.o.grown hgrow (by omega) (fun k hk=>(HO.o.lt k hk).1))
 have hne2:Hid ((Value.slice ao n' cap).ownBlock≠some b):=fun e=>by
  rcases hown'.2 with⟨hv,_⟩|⟨g,cap',cur,hv,_,hh,_⟩
  ·rw[hv]at e;simp[Value.ownBlock]at e
  ·rw [hv]at e
   simp[Value.ownBlock]at e
   rw[e,hb2]at hh
   simp at hh
 have HKP2:Hid (Kp b w1 w2):=fun k cs T fr hk hT hc=>by
  rw[hgrow.block k (lt_of_block hc) (fun e=>?_)]
  ·exact hc
  ·obtain ⟨cur,hcur⟩:=C3 HO.o e.symm
   rw[hc]at hcur
   have:=Option.some.inj hcur
   injection this with _ h2 _
   exact hT h2
 clear hown' hgrow hb2 c0 c1 c2 cf
 go_wp2
 go_ret2
 refine⟨rfl,?_,HB2.o.setCell (p:=⟨b,1,none⟩) hB _,HKP.o.trans (HKP2.o.trans Kp.set)⟩
 show CM B b (byteCells (l++s)) nm _
 rw[<- HSc.o]
 refine .inr ⟨hB,_,by rw[Gv HK2.o];rfl,?_,hne2.o⟩
 have:=uu (o:=1) (u:=.slice ao n' cap) HO2.o hne2.o
 simpa[Lib.strCells_length]using this
def JE(w:World)(g:Nat)(L:List (List UInt8)):Prop:=∃cs fr,w.heap[g]? =some (.cells cs 9 fr)/\∀j (h:j<L.length),cs[j]? =some (.string ⟨L[j].toArray⟩)
theorem jT(B b:Nat)(l:List UInt8)(nm:Value)(L:List (List UInt8))(m g:Nat)(w:World)(hm:m=L.length)(h:Wr B b l nm w)(hg:JE w g L)(hgb:g≠b)(hlen:l.length+L.flatten.length<=140737488355328)(hBw:B<=w.heap.size)(hmx:m<=1000):
  Calls prog 43 #[.pointer (some ⟨b,0,none⟩),.slice (some ⟨g,0,none⟩) m m] w fun e w'=>e=.returned (.tuple #[])/\cu B b (l++L.flatten) nm w w':=by
 obtain⟨cs,fr,hcs,hcj⟩:=hg
 have HM:=I hm
 have HW:=I h
 have HG:=I hcs
 have HCJ:=I hcj
 have HLn:=I hlen
 have HGB:=I hgb
 clear hm h hcs hcj hlen hgb
 go_enter func43,ntmps43
 go_wp2
 go_loopw [8] (fun c wr=>∃(j:Nat),j<=m/\c=.int .i64 j/\cu B b (l++(L.take j).flatten) nm w wr) (fun c _=>m - (intOf c).toNat)
 case atStart=>exact⟨0,Nat.zero_le _,rfl,by simpa using cu.nil HW.o⟩
 case round=>
  obtain⟨j,hj,rfl,hto⟩:=hrel
  obtain⟨w2,hw2⟩:∃w2,w2=wr:=⟨_,rfl⟩
  subst hw2
  have HT:=I hto
  clear hto
  by_cases hlt:j<m
  ·have hjL:j<L.length:=by have:=HM.o;omega
   have e1:(j:Int)<(m:Int):=by omega
   have e0:(0:Int)<=(j:Int):=by omega
   have hfl:(L.take (j+1)).flatten=(L.take j).flatten++L[j]:=by rw[List.take_add_one,List.getElem?_eq_getElem hjL,List.flatten_append];simp
   have hle:l.length+((L.take j).flatten.length+L[j].length)<=140737488355328:=by
    have h1:(L.take (j+1)).flatten.length<=L.flatten.length:=by
     have h3:=congrArg (fun x=>x.flatten.length) (List.take_append_drop (j+1) L)
     simp only[List.flatten_append,List.length_append]at h3
     omega
    have h2:=congrArg List.length hfl
    rw[List.length_append]at h2
    have:=HLn.o
    omega
   have HC:=I (Gr B b (l++(L.take j).flatten) nm L[j] w2 HT.o.1 (by rw[List.length_append];omega) (by have:=HT.o.2.1.size;omega))
   have hcell:w2.cell? ⟨g,j,none⟩=some (.string ⟨L[j].toArray⟩):=by
    have:=HT.o.2.2 g cs 9 fr HGB.o (by decide) HG.o
    simp[World.cell?,this,HCJ.o j hjL]
   have HFl:Hid (l++(L.take j).flatten++L[j]=l++(L.take (j+1)).flatten):=by show _=_;rw[hfl,List.append_assoc]
   have hjw:IntKind.i64.wrap ((j:Int)+1)=(j:Int)+1:=by rw[IntKind.wrap_i64];omega
   obtain⟨S,hS⟩:∃S,S=L[j]:=⟨_,rfl⟩
   rw[<- hS]at HC hcell HFl
   obtain⟨SS,hSS⟩:∃SS:ByteArray,SS=⟨S.toArray⟩:=⟨_,rfl⟩
   rw[<- hSS]at HC hcell
   clear hfl hle hS hSS hjL
   go_wp2_with fail
   refine HC.o.mono ?_
   rintro e w3 ⟨rfl,hto3⟩
   rw[HFl.o]at hto3
   have HT3:=I (HT.o.trans hto3)
   clear hto3 HC HT HFl hcell
   go_wp2
   go_roundw
   case rel=>exact⟨j+1,by omega,by go_num,HT3.o⟩
   case measure=>simp[intOf];omega
  ·have e1:¬(j:Int)<(m:Int):=by omega
   have hjm:j=L.length:=by have:=HM.o;omega
   have HF:Hid (cu B b (l++L.flatten) nm w w2):=by
    have:=HT.o
    rw[hjm,List.take_length]at this
    exact this
   clear HT hjm
   go_wp2
   go_end0
   exact⟨rfl,HF.o⟩
def lI(k:Int):ByteArray:=
 if k=3 then⟨#[94]⟩else if k=4 then⟨#[36]⟩else if k=5 then⟨#[92,65]⟩else if k=6 then⟨#[92,122]⟩
 else if k=7 then⟨#[92,98]⟩else if k=8 then⟨#[92,66]⟩else⟨#[40,63,58,41]⟩
def iJ(v:Int):ByteArray:=if v=2 then⟨#[63]⟩else if v=3 then⟨#[43]⟩else⟨#[]⟩
theorem Ew(k:Int)(w:World):Calls prog 45 #[.int .i64 k] w fun e w'=>e=.returned (.string (lI k))/\w'=w:=by
 by_cases h:3<=k/\k<=8
 ·rcases (by omega:k=3\/k=4\/k=5\/k=6\/k=7\/k=8)with rfl|rfl|rfl|rfl|rfl|rfl<;>
   (clear h;go_enter func45,ntmps45;go_wp2;go_ret;exact⟨rfl,rfl⟩)
 ·have hS:Hid (lI k=⟨#[40,63,58,41]⟩):=by
   show _=_
   unfold lI
   rw[if_neg (by omega),if_neg (by omega),if_neg (by omega),if_neg (by omega),if_neg (by omega),if_neg (by omega)]
  have b3:(k==3)=false:=by simp;omega
  have b4:(k==4)=false:=by simp;omega
  have b5:(k==5)=false:=by simp;omega
  have b6:(k==6)=false:=by simp;omega
  have b7:(k==7)=false:=by simp;omega
  have b8:(k==8)=false:=by simp;omega
  clear h
  go_enter func45,ntmps45
  go_wp2
  go_ret
  exact⟨by rw[hS.o];rfl,rfl⟩
theorem FC(k:Int)(w:World):Calls prog 63 #[.int .i64 k] w fun e w'=>e=.returned (.string (iJ k))/\w'=w:=by
 by_cases h2:k=2
 ·subst h2
  go_enter func63,ntmps63
  go_wp2
  go_ret
  exact⟨rfl,rfl⟩
 ·by_cases h3:k=3
  ·subst h3
   clear h2
   go_enter func63,ntmps63
   go_wp2
   go_ret
   exact⟨rfl,rfl⟩
  ·have hS:Hid (iJ k=⟨#[]⟩):=by show _=_;unfold iJ;rw[if_neg h2,if_neg h3]
   have b2:(k==2)=false:=by simpa using h2
   have b3:(k==3)=false:=by simpa using h3
   clear h2 h3
   go_enter func63,ntmps63
   go_wp2
   go_ret
   exact⟨by rw[hS.o];rfl,rfl⟩
end Go.Proofs.YtklbbbldalmnbaaGreatDoor.TR
namespace Go.Proofs.YtklbbbldalmnbaaGreatDoor.TR
open Go.RowKit Go.Lib
def fK(f:Nat->List UInt8):Nat->List UInt8
 |0=>[]
 |j+1=>fK f j++f j
def eR(b:Bool)(l:List UInt8):List UInt8:=if b then [40,63,58]++(l++[41])else l
def rm(r:Int×Int):List UInt8:=[92,120,123]++(hexDigits r.1.toNat++([125,45,92,120,123]++(hexDigits r.2.toNat++[125])))
def fN(s:RL)(j:Nat):List UInt8:=rm (s.getD j (0,0))
def oz:List UInt8:=[91,94,92,120,123,48,125,45,92,120,123,49,48,102,102,102,102,125,93]
def fg(s:RL):List UInt8:=if s.length=0 then oz else [91]++(fK (fN s) s.length++[93])
def gA(N:de)(num:Int):List UInt8:=match N.find? (fun x=>decide (x.2=num))with
 |some x=>[40,63,60]++(x.1.data.toList++[62])
 |none=>[40]
def aR(N:de)(k num:Int):List UInt8:=
 if k=13 then [40,63,62]else if k=14 then [40,63,61]else if k=15 then [40,63,33]
 else if k=16 then [40,63,60,61]else if k=17 then [40,63,60,33]else gA N num
def gC(an:Int):List UInt8:=if 0<=an then decDigits an.toNat else []
def cD(least an bB:Int):List UInt8:=[123]++(decDigits least.toNat++([44]++(gC an++([125]++(iJ bB).data.toList))))
def CO(fold:Bool)(num:Int):List UInt8:=
 if fold then [40,63,105,58,92,107,60]++(decDigits num.toNat++[62,41])else [92,107,60]++(decDigits num.toNat++[62])
def fu(k:Int):Bool:=decide (k=9)||decide (k=10)||decide (k=12)
def partAt(K:List Int)(T:List (List UInt8))(j:Nat):List UInt8:=eR (decide (K.getD j 0=10)) (T.getD j [])
def mK(T:List (List UInt8))(j:Nat):List UInt8:=(if j=0 then []else [124])++T.getD j []
def jg(N:de)(k num least an bB:Int)(fold:Bool)(set:RL)(K:List Int)(T:List (List UInt8)):List UInt8:=
 if k=2 then fg set
 else if k=9 then fK (partAt K T) T.length
 else if k=10 then fK (mK T) T.length
 else if k=12 then eR (fu (K.getD 0 0)) (T.getD 0 [])++cD least an bB
 else if k=18 then CO fold num
 else if k=11\/(13<=k/\k<=17)then aR N k num++(T.getD 0 []++[41])
 else(lI k).data.toList
mutual
def jX(N:de):Tr->List UInt8
 | .mk k num least an bB fold set kids=>jg N k num least an bB fold set (kids.map Tr.kind) (rD N kids)
def rD(N:de):List Tr->List (List UInt8)
 |[]=>[]
 |t::ts=>jX N t::rD N ts
end
theorem pf(N:de):∀ts:List Tr,rD N ts=ts.map (jX N)
 |[]=>by rw[rD];rfl
 |t::ts=>by rw[rD,pf N ts];rfl
theorem gX(N:de)(ts:List Tr):(rD N ts).length=ts.length:=by rw[pf,List.length_map]
theorem mi(N:de)(ts:List Tr)(j:Nat)(h:j<ts.length):(rD N ts).getD j []=jX N ts[j]:=by
 rw[pf];simp[List.getD,h]
theorem uD(ts:List Tr)(j:Nat)(h:j<ts.length):(ts.map Tr.kind).getD j 0=ts[j].kind:=by simp[List.getD,h]
theorem gu(N:de)(t:Tr):jX N t=jg N t.kind t.num t.least t.an t.bB t.fold t.set (t.kids.map Tr.kind) (rD N t.kids):=by cases t;rw[jX];rfl
theorem lx(N:de)(ts:List Tr)(j:Nat)(h:j<ts.length):partAt (ts.map Tr.kind) (rD N ts) j=eR (decide (ts[j].kind=10)) (jX N ts[j]):=by
 unfold partAt;rw[uD _ _ h,mi _ _ _ h]
theorem kO(N:de)(ts:List Tr)(j:Nat)(h:j<ts.length):mK (rD N ts) j=(if j=0 then []else [124])++jX N ts[j]:=by
 unfold mK;rw[mi _ _ _ h]
theorem pE(s:RL)(j:Nat)(h:j<s.length):fN s j=rm s[j]:=by unfold fN;simp[List.getD,h]
theorem tH(f:Nat->List UInt8){j n:Nat}(h:j<=n):(fK f j).length<=(fK f n).length:=by
 induction n with
 | zero => have:j=0:=by omega
           subst this;exact U _
 |succ n ih=>
  by_cases hj:j=n+1
  ·subst hj;exact U _
  ·have:=ih (by omega);rw[fK,List.length_append];omega
def jS(N:de)(num:Int)(l:List UInt8):Prop:=
 (∃k,k<N.length/\mx N k=num/\l=[40,63,60]++((lR N k).data.toList++[62]))\/((∀k,k<N.length->mx N k≠num)/\l=[40])
theorem jS.gA(N:de)(num:Int):jS N num (gA N num):=by
 unfold Go.Proofs.YtklbbbldalmnbaaGreatDoor.TR.gA
 split
 ·rename_i x hx
  have h1:=List.find?_some hx
  have h2:=List.mem_of_find?_eq_some hx
  obtain⟨k,hk,e⟩:=List.mem_iff_getElem.1 h2
  refine .inl ⟨k,hk,?_,?_⟩
  ·rw[nK hk,e];simpa using h1
  ·rw[mf hk,e]
 ·rename_i hx
  refine .inr ⟨fun k hk e=>?_,rfl⟩
  rw[List.find?_eq_none]at hx
  have:=hx N[k] (List.getElem_mem hk)
  rw[nK hk]at e
  exact this (by simpa using e)
theorem jS.one{N:de}{num:Int}{l l':List UInt8}(hn:nT N N.length)(h:jS N num l)(h':jS N num l'):l=l':=by
 rcases h with⟨k,hk,e,rfl⟩|⟨ha,rfl⟩
 ·rcases h' with⟨j,hj,e',rfl⟩|⟨ha',rfl⟩
  ·have:k=j:=by
    rcases Nat.lt_trichotomy k j with h|h|h
    ·exact absurd (.inr (by rw[e,e'])) (hn j hj k h)
    ·exact h
    ·exact absurd (.inr (by rw[e,e'])) (hn k hk j h)
   rw[this]
  ·exact absurd e (ha' k hk)
 ·rcases h' with⟨j,hj,e',rfl⟩|⟨ha',rfl⟩
  ·exact absurd e' (ha j hj)
  ·rfl
structure xZ(t:Tr):Prop where
 kind:1<=t.kind/\t.kind<=18
 kids:cK t=true
 set:t.set.length<=400/\∀r∈t.set,er r
 rep:t.kind=12->(0<=t.least/\t.least<=100)/\(t.an= -1\/(0<=t.an/\t.an<=100))/\1<=t.bB/\t.bB<=3
 ag:t.kind=18->1<=t.num/\t.num<=20
inductive uF:Tr->Prop
 |mk (k num least an bB:Int) (fold:Bool) (set:RL) (kids:List Tr) (h:xZ (.mk k num least an bB fold set kids)) (hk:∀j (hj:j<kids.length),uF kids[j]):uF (.mk k num least an bB fold set kids)
theorem uF.open{t:Tr}(h:uF t):xZ t/\∀j (hj:j<t.kids.length),uF t.kids[j]:=by
 cases h with
 |mk k num least an bB fold set kids h hk=>exact⟨h,hk⟩
theorem uF.one{t:Tr}(h:uF t)(hk:11<=t.kind/\t.kind<=17):t.kids.length=1:=by
 have h1:=h.open.1.kids
 unfold cK at h1
 rw[if_neg (by omega),if_neg (by omega),if_pos (by omega)]at h1
 simpa using h1
end Go.Proofs.YtklbbbldalmnbaaGreatDoor.TR
namespace Go.Proofs.YtklbbbldalmnbaaGreatDoor.TR
open Go.RowKit
open Go.Lib (byteCells byteCells_append byteCells_length decDigits)
def iP(w:World):Prop:=Lib.TabIs prog w "internal/strconv.uint64pow10" .u64 Lib.pow10Tab/\w.cell? ⟨2,15,none⟩=some (.int .u8 4)
theorem iP.ar{w w':World}(h:iP w)(hb:Below w.heap.size w w'):iP w':=by
 refine⟨?_,aE hb (bb h.2) h.2⟩
 have h1:=h.1
 unfold Lib.TabIs World.var? at h1 |-
 obtain⟨g,hg⟩:∃g,Tryz.prog.globalNamed "internal/strconv.uint64pow10" =some g:=⟨_,Tryz.Hr.m17⟩
 rw[hg]at h1 |-
 simp only[Option.bind_some]at h1 |-
 have:g<w.heap.size:=by
  by_cases hlt:g<w.heap.size
  ·exact hlt
  ·rw[Array.getElem?_eq_none (by omega)]at h1;simp at h1
 rw[hb.block g this]
 exact h1
theorem fe(w:World)(q:Nat)(os:Array Obj):Below w.heap.size w (Sort.grow (w.drewN q) os):=by
 have h1:Below w.heap.size w (w.drewN q):=by
  refine⟨?_,?_,?_,?_,fun k hk=>?_⟩
  all_goals first|rfl|exact U _|simp
 refine h1.trans ⟨rfl,rfl,rfl,?_,fun k hk=>?_⟩
 ·show (w.drewN q).heap.size<=((w.drewN q).heap++os).size
  simp
 ·show ((w.drewN q).heap++os)[k]? =_
  exact Array.getElem?_append_left (xs:=(w.drewN q).heap) hk
theorem Dg(n:Nat)(hn:n<=1000)(w:World)(h:iP w):Calls prog 62 #[.int .i64 (n:Int)] w fun e w'=>e=.returned (.string ⟨(decDigits n).toArray⟩)/\Below w.heap.size w w':=by
 refine(Any.strconv_Itoa Tryz.Hr (n:Int) (by omega) (by omega) w h.1).mono ?_
 rintro e w' ⟨rfl,k,os,rfl⟩
 exact⟨by rw[Lib.itoa_nonneg],fe w k os⟩
theorem wg(p:Int)(h0:0<=p)(h1:p<=1114111)(w:World)(h:iP w):Calls prog 60 #[.int .i64 p] w fun e w'=>e=.returned (.string ⟨(hexDigits p.toNat).toArray⟩)/\Below w.heap.size w w':=by
 have:=Hl p.toNat (by omega) w h.2
 rw[show ((p.toNat:Nat):Int)=p by omega]at this
 exact this
theorem nO(p:Int)(h0:0<=p)(h1:p<=1000)(w:World)(h:iP w):Calls prog 62 #[.int .i64 p] w fun e w'=>e=.returned (.string ⟨(decDigits p.toNat).toArray⟩)/\Below w.heap.size w w':=by
 have:=Dg p.toNat (by omega) w h
 rw[show ((p.toNat:Nat):Int)=p by omega]at this
 exact this
def Ints(w:World)(g:Nat)(L:List Int):Prop:=∀j (h:j<L.length),w.cell? ⟨g,j,none⟩=some (.int .i64 L[j])
def JY(L:List Int)(k:Int)(e:Ending):Prop:=∃z:Int,e=.returned (.int .i64 z)/\(decide (z≥0)=L.contains k)
theorem nN(L:List Int)(m g:Nat)(k:Int)(w:World)(hm:m=L.length)(hg:Ints w g L)(hmx:m<=1000):
  Calls prog 81 #[.slice (some ⟨g,0,none⟩) m m,.int .i64 k] w fun e w'=>JY L k e/\w'=w:=by
 have HM:=I hm
 have HG:=I hg
 clear hm hg
 go_enter func81,ntmps81
 go_wp2
 go_loopw [8] (fun c wr=>∃(j:Nat),j<=m/\c=.int .i64 j/\(∀i (h:i<L.length),i<j->L[i]≠k)/\wr=w) (fun c _=>m - (intOf c).toNat)
 case atStart=>exact⟨0,Nat.zero_le _,rfl,fun i _ h=>absurd h (by omega),rfl⟩
 case round=>
  obtain⟨j,hj,rfl,hne,hwr⟩:=hrel
  have hwr2:=hwr.symm
  subst hwr2
  have HN:=I hne
  clear hne
  by_cases hlt:j<m
  ·have hjL:j<L.length:=by have:=HM.o;omega
   have e1:(j:Int)<(m:Int):=by omega
   have e0:(0:Int)<=(j:Int):=by omega
   have cj:=HG.o j hjL
   have hjw:IntKind.i64.wrap ((j:Int)+1)=(j:Int)+1:=by rw[IntKind.wrap_i64];omega
   have HT:Hid (L[j]=k->L.contains k=true):=fun h=>by rw[<- h];simp
   have HF:Hid (L[j]≠k->∀i (h:i<L.length),i<j+1->L[i]≠k):=fun h i hi hij=>by
    by_cases e:i=j
    ·subst e;exact h
    ·exact HN.o i hi (by omega)
   obtain⟨a,ha⟩:∃a,a=L[j]:=⟨_,rfl⟩
   rw[<- ha]at cj HT HF
   clear ha hjL
   by_cases hk:a=k
   ·have HC:=I (HT.o hk)
    have b1:(k==a)=true:=by simp[hk]
    have b2:(a==k)=true:=by simp[hk]
    subst hk
    clear HT HF HN
    go_wp2
    go_ret
    exact⟨⟨_,rfl,by rw[HC.o];simp⟩,rfl⟩
   ·have HC:=I (HF.o hk)
    have b1:(k==a)=false:=by simp;exact fun h=>hk h.symm
    have b2:(a==k)=false:=by simpa using hk
    have b3:¬k=a:=fun h=>hk h.symm
    clear HT HF HN
    go_wp2
    go_roundw
    case rel=>exact⟨j+1,by omega,by go_num,HC.o,by first|rfl|trivial⟩
    case measure=>simp[intOf];omega
  ·have e1:¬(j:Int)<(m:Int):=by omega
   have HC:Hid (L.contains k=false):=by
    show _=_
    rw[Bool.eq_false_iff]
    intro h
    obtain⟨i,hi,e⟩:=List.mem_iff_getElem.1 (by simpa using h)
    exact HN.o i hi (by have:=HM.o;omega) e
   clear HN
   go_wp2
   go_ret
   exact⟨⟨_,rfl,by rw[HC.o];decide⟩,rfl⟩
theorem jM(L:List Int)(m g:Nat)(k:Int)(w:World)(hm:m=L.length)(hg:Ints w g L)(hmx:m<=1000):
  Calls prog 72 #[.slice (some ⟨g,0,none⟩) m m,.int .i64 k] w fun e w'=>e=.returned (.bool (L.contains k))/\w'=w:=by
 have HC:=I (nN L m g k w hm hg hmx)
 clear hm hg
 go_enter func72,ntmps72
 go_wp2_with fail
 refine HC.o.mono ?_
 rintro e w' ⟨⟨z,rfl,hz⟩,rfl⟩
 have HZ:=I hz
 clear hz HC
 have HF:Hid (decide (0<=z)=L.contains k):=by show _=_;rw[<- HZ.o]
 clear HZ
 go_wp2
 go_ret
 exact⟨by rw[<- HF.o];rfl,rfl⟩
theorem J4{w:World}{g:Nat}{s:List UInt8}{fr:Nat×Nat}(h:w.heap[g]? =some (.cells #[.string ⟨s.toArray⟩] 9 fr)):JE w g [s]:=⟨_,_,h,fun j hj=>by
 have:j=0:=by simp at hj;omega
 subst this;rfl⟩
theorem Kt{w:World}{g:Nat}{s t:List UInt8}{fr:Nat×Nat}(h:w.heap[g]? =some (.cells #[.string ⟨s.toArray⟩,.string ⟨t.toArray⟩] 9 fr)):JE w g [s,t]:=⟨_,_,h,fun j hj=>by
 rcases(by simp at hj;omega:j=0\/j=1)with rfl|rfl<;>rfl⟩
theorem Ki{w:World}{g:Nat}{s t u:List UInt8}{fr:Nat×Nat}(h:w.heap[g]? =some (.cells #[.string ⟨s.toArray⟩,.string ⟨t.toArray⟩,.string ⟨u.toArray⟩] 9 fr)):JE w g [s,t,u]:=⟨_,_,h,fun j hj=>by
 rcases(by simp at hj;omega:j=0\/j=1\/j=2)with rfl|rfl|rfl<;>rfl⟩
theorem Ks{w:World}{g:Nat}{s t u v x:List UInt8}{fr:Nat×Nat}(h:w.heap[g]? =some (.cells #[.string ⟨s.toArray⟩,.string ⟨t.toArray⟩,.string ⟨u.toArray⟩,.string ⟨v.toArray⟩,.string ⟨x.toArray⟩] 9 fr)):JE w g [s,t,u,v,x]:=⟨_,_,h,fun j hj=>by
 rcases(by simp at hj;omega:j=0\/j=1\/j=2\/j=3\/j=4)with rfl|rfl|rfl|rfl|rfl<;>rfl⟩
theorem gn(B b:Nat)(l:List UInt8)(nm:Value)(s:List UInt8)(w:World)(h:Wr B b l nm w)(hlen:l.length+s.length<=140737488355328):
  Calls prog 43 #[.pointer (some ⟨b,0,none⟩),.slice (some ⟨w.heap.size,0,none⟩) 1 1] (w.alloc (.cells #[.string ⟨s.toArray⟩] 9)) fun e w'=>e=.returned (.tuple #[])/\cu B b (l++s) nm w w':=by
 have hb:Below w.heap.size w (w.alloc (.cells #[.string ⟨s.toArray⟩] 9)):=(J _ w).alloc (U _) _
 have hlt:=h.lt
 refine(jT B b l nm [s] 1 w.heap.size _ rfl (h.ar hb) (J4 (aj _ _)) (by omega) (by simpa using hlen) (by have:=hb.size;omega) (by omega)).mono ?_
 rintro e w' ⟨rfl,hto⟩
 exact⟨rfl,(cu.put h hb).trans (by simpa using hto)⟩
theorem JM(B b:Nat)(l:List UInt8)(nm:Value)(s t:List UInt8)(w:World)(h:Wr B b l nm w)(hlen:l.length+(s++t).length<=140737488355328):
  Calls prog 43 #[.pointer (some ⟨b,0,none⟩),.slice (some ⟨w.heap.size,0,none⟩) 2 2] (w.alloc (.cells #[.string ⟨s.toArray⟩,.string ⟨t.toArray⟩] 9)) fun e w'=>e=.returned (.tuple #[])/\cu B b (l++(s++t)) nm w w':=by
 have hb:Below w.heap.size w (w.alloc (.cells #[.string ⟨s.toArray⟩,.string ⟨t.toArray⟩] 9)):=(J _ w).alloc (U _) _
 have hlt:=h.lt
 refine(jT B b l nm [s,t] 2 w.heap.size _ rfl (h.ar hb) (Kt (aj _ _)) (by omega) (by simpa using hlen) (by have:=hb.size;omega) (by omega)).mono ?_
 rintro e w' ⟨rfl,hto⟩
 exact⟨rfl,(cu.put h hb).trans (by simpa using hto)⟩
theorem Ik(B b:Nat)(l:List UInt8)(nm:Value)(s t u:List UInt8)(w:World)(h:Wr B b l nm w)(hlen:l.length+(s++(t++u)).length<=140737488355328):
  Calls prog 43 #[.pointer (some ⟨b,0,none⟩),.slice (some ⟨w.heap.size,0,none⟩) 3 3] (w.alloc (.cells #[.string ⟨s.toArray⟩,.string ⟨t.toArray⟩,.string ⟨u.toArray⟩] 9)) fun e w'=>e=.returned (.tuple #[])/\cu B b (l++(s++(t++u))) nm w w':=by
 have hb:Below w.heap.size w (w.alloc (.cells #[.string ⟨s.toArray⟩,.string ⟨t.toArray⟩,.string ⟨u.toArray⟩] 9)):=(J _ w).alloc (U _) _
 have hlt:=h.lt
 refine(jT B b l nm [s,t,u] 3 w.heap.size _ rfl (h.ar hb) (Ki (aj _ _)) (by omega) (by simpa using hlen) (by have:=hb.size;omega) (by omega)).mono ?_
 rintro e w' ⟨rfl,hto⟩
 exact⟨rfl,(cu.put h hb).trans (by simpa using hto)⟩
theorem Ko(B b:Nat)(l:List UInt8)(nm:Value)(s t u v x:List UInt8)(w:World)(h:Wr B b l nm w)(hlen:l.length+(s++(t++(u++(v++x)))).length<=140737488355328):
  Calls prog 43 #[.pointer (some ⟨b,0,none⟩),.slice (some ⟨w.heap.size,0,none⟩) 5 5] (w.alloc (.cells #[.string ⟨s.toArray⟩,.string ⟨t.toArray⟩,.string ⟨u.toArray⟩,.string ⟨v.toArray⟩,.string ⟨x.toArray⟩] 9)) fun e w'=>e=.returned (.tuple #[])/\cu B b (l++(s++(t++(u++(v++x))))) nm w w':=by
 have hb:Below w.heap.size w (w.alloc (.cells #[.string ⟨s.toArray⟩,.string ⟨t.toArray⟩,.string ⟨u.toArray⟩,.string ⟨v.toArray⟩,.string ⟨x.toArray⟩] 9)):=(J _ w).alloc (U _) _
 have hlt:=h.lt
 refine(jT B b l nm [s,t,u,v,x] 5 w.heap.size _ rfl (h.ar hb) (Ks (aj _ _)) (by omega) (by simpa using hlen) (by have:=hb.size;omega) (by omega)).mono ?_
 rintro e w' ⟨rfl,hto⟩
 exact⟨rfl,(cu.put h hb).trans (by simpa using hto)⟩
abbrev JW(a b:Int):Obj:=.cells #[.int .i64 a,.int .i64 b] 76
theorem CY{w:World}{k:Nat}{a b:Int}(h:w.heap[k]? =some (JW a b)):w.cell? ⟨k,0,none⟩=some (.int .i64 a)/\w.cell? ⟨k,1,none⟩=some (.int .i64 b):=by
 constructor<;>simp[World.cell?,h]
theorem DW(B b:Nat)(l:List UInt8)(nm:Value)(sa:Option Addr)(sc:Nat)(w:World)(h:Wr B b l nm w)(hlen:l.length+oz.length<=140737488355328):
  Calls prog 38 #[.pointer (some ⟨b,0,none⟩),.slice sa 0 sc] w fun e w'=>e=.returned (.tuple #[])/\cu B b (l++oz) nm w w':=by
 have HP:=I (gn B b l nm oz w h hlen)
 simp only[oz]at HP
 have HR:Hid (oz=[91,94,92,120,123,48,125,45,92,120,123,49,48,102,102,102,102,125,93]):=rfl
 rw[HR.o]
 clear h hlen
 go_enter func38,ntmps38
 go_wp2_with fail
 refine HP.o.mono ?_
 rintro e w' ⟨rfl,hto⟩
 have HT:=I hto
 clear hto HP
 go_wp2
 try simp only[Exit.inBlock,Exit.then]
 refine bodyPost_ret (results_none rfl _ _ _) rfl ?_
 exact⟨rfl,HT.o⟩
theorem Ff(w0:World)(b:Nat)(l:List UInt8)(nm:Value)(x:Addr)(sl sc:Nat)(S:RL)(w:World)(h:Wr w0.heap.size b l nm w)(hw0:Below w0.heap.size w0 w)(hT:iP w0)(hsl:sl=S.length)(hS:iZ w0 x S)(hok:∀r∈S,er r)(h4:S.length<=400)(h0:S.length≠0)(hlen:l.length+(fg S).length<=140737488355328):
  Calls prog 38 #[.pointer (some ⟨b,0,none⟩),.slice (some x) sl sc] w fun e w'=>e=.returned (.tuple #[])/\cu w0.heap.size b (l++fg S) nm w w':=by
 have hST:fg S=[91]++(fK (fN S) S.length++[93]):=by unfold fg;rw[if_neg h0]
 have HST:=I hST
 have hL:(fg S).length=1+((fK (fN S) S.length).length+1):=by rw[hST];simp;omega
 have HP1:=I (gn w0.heap.size b l nm [91] w h (by simp;omega))
 have HPend:Hid (∀W,Wr w0.heap.size b (l++([91]++fK (fN S) sl)) nm W->Calls prog 43 #[.pointer (some ⟨b,0,none⟩),.slice (some ⟨W.heap.size,0,none⟩) 1 1] (W.alloc (.cells #[.string ⟨[93].toArray⟩] 9)) fun e w'=>e=.returned (.tuple #[])/\cu w0.heap.size b (l++fg S) nm W w'):=fun W hW=>by
  have:=gn w0.heap.size b _ nm [93] W hW (by rw[hsl];simp;omega)
  rw[hST, <-hsl]
  simpa using this
 have HLen:Hid (∀j,j<sl->l.length+(1+(fK (fN S) (j+1)).length)<=140737488355328):=fun j hj=>by
  have:=tH (fN S) (j:=j+1) (n:=S.length) (by omega)
  omega
 have hsl0:¬(sl:Int)=0:=by omega
 have hsb:((sl:Int)==0)=false:=by simp;omega
 have hsl4:sl<=400:=by omega
 have HSL:=I hsl
 have HCl:Hid (∀W,Below w0.heap.size w0 W->∀j (hj:j<S.length),W.cell? (x.add (j*2))=some (.int .i64 S[j].1)/\W.cell? ⟨(x.add (j*2)).block,(x.add (j*2)).off+1,none⟩=some (.int .i64 S[j].2)):=fun W hW j hj=>
  ⟨aE hW (bb (hS j hj).1) (hS j hj).1,aE hW (bb (hS j hj).2) (hS j hj).2⟩
 have HOk:=I hok
 have HW0:=I hw0
 have HTb:=I hT
 clear h hw0 hT hsl hS hok h4 h0 hlen hST hL
 simp only[List.toArray]at HP1 HPend
 go_enter func38,ntmps38
 go_wp2_with fail
 refine HP1.o.mono ?_
 rintro e w1 ⟨rfl,hto⟩
 have HT1:=I hto
 clear hto HP1
 go_wp2
 go_loopw [17] (fun c wr=>∃(j:Nat),j<=sl/\c=.int .i64 j/\cu w0.heap.size b (l++([91]++fK (fN S) j)) nm w wr) (fun c _=>sl - (intOf c).toNat)
 case atStart=>exact⟨0,Nat.zero_le _,rfl,HT1.o⟩
 case round=>
  obtain⟨j,hj,rfl,hto⟩:=hrel
  obtain⟨w2,hw2⟩:∃w2,w2=wr:=⟨_,rfl⟩
  subst hw2
  have HT:=I hto
  clear hto HT1
  by_cases hlt:j<sl
  ·have hjS:j<S.length:=by have:=HSL.o;omega
   have hb02:Below w0.heap.size w0 w2:=HW0.o.trans HT.o.2.1
   obtain⟨m0,m1⟩:=HCl.o w2 hb02 j hjS
   have hokj:=HOk.o S[j] (List.getElem_mem hjS)
   have hup:fK (fN S) (j+1)=fK (fN S) j++rm S[j]:=by rw[fK,pE _ _ hjS]
   have hlenj:=HLen.o j hlt
   rw[hup,List.length_append]at hlenj
   obtain⟨r,hr⟩:∃r,r=S[j]:=⟨_,rfl⟩
   rw[<- hr]at m0 m1 hokj hup hlenj
   obtain⟨p,q⟩:=r
   obtain⟨o1,o2,o3⟩:=hokj
   simp only at m0 m1 o1 o2 o3
   obtain⟨w3,hw3⟩:∃w3,w3=w2.alloc (JW p q):=⟨_,rfl⟩
   have hX3:w3.heap[w2.heap.size]? =some (JW p q):=by rw[hw3];exact aj _ _
   have hb3:Below w2.heap.size w2 w3:=by rw[hw3];exact(J _ _).alloc (U _) _
   have hs2:w0.heap.size<=w2.heap.size:=hb02.size
   have hto3:cu w0.heap.size b (l++([91]++fK (fN S) j)) nm w w3:=HT.o.then hb3
   have HT3:=I hto3
   obtain⟨bx,hbx⟩:∃bx,bx=w2.heap.size:=⟨_,rfl⟩
   rw[<- hbx]at hX3
   have HX3:Hid (∀W,Below w3.heap.size w3 W->W.cell? ⟨bx,0,none⟩=some (.int .i64 p)/\W.cell? ⟨bx,1,none⟩=some (.int .i64 q)):=fun W hW=>CY (by rw[hW.block _ (lt_of_block hX3)];exact hX3)
   have hTab3:∀W,Below w3.heap.size w3 W->iP W:=fun W hW=>HTb.o.ar (HW0.o.trans (hto3.2.1.trans (hW.mono (by have:=hb3.size;omega))))
   obtain⟨Hp,hHp⟩:∃Hp,Hp=hexDigits p.toNat:=⟨_,rfl⟩
   obtain⟨Hq,hHq⟩:∃Hq,Hq=hexDigits q.toNat:=⟨_,rfl⟩
   have HH1:Hid (∀W,Below w3.heap.size w3 W->Calls prog 60 #[.int .i64 p] W fun e w'=>e=.returned (.string ⟨Hp.toArray⟩)/\Below W.heap.size W w'):=fun W hW=>by rw[hHp];exact wg p o1 (by omega) W (hTab3 W hW)
   have HH2:Hid (∀W,Below w3.heap.size w3 W->Calls prog 60 #[.int .i64 q] W fun e w'=>e=.returned (.string ⟨Hq.toArray⟩)/\Below W.heap.size W w'):=fun W hW=>by rw[hHq];exact wg q (by omega) o3 W (hTab3 W hW)
   have HNx:Hid (l++([91]++fK (fN S) j)++([92,120,123]++(Hp++([125,45,92,120,123]++(Hq++[125]))))=l++([91]++fK (fN S) (j+1))):=by
    show _=_
    rw[hup,hHp,hHq]
    simp[rm]
   have HP5:Hid (∀W,Below w3.heap.size w3 W->Calls prog 43 #[.pointer (some ⟨b,0,none⟩),.slice (some ⟨W.heap.size,0,none⟩) 5 5] (W.alloc (.cells #[.string ⟨#[92,120,123]⟩,.string ⟨Hp.toArray⟩,.string ⟨#[125,45,92,120,123]⟩,.string ⟨Hq.toArray⟩,.string ⟨#[125]⟩] 9)) fun e w'=>e=.returned (.tuple #[])/\cu w0.heap.size b (l++([91]++fK (fN S) (j+1))) nm W w'):=fun W hW=>by
    have:=Ko w0.heap.size b (l++([91]++fK (fN S) j)) nm [92,120,123] Hp [125,45,92,120,123] Hq [125] W (HT3.o.1.ar hW) (by
     have e:rm (p,q)=[92,120,123]++(Hp++([125,45,92,120,123]++(Hq++[125]))):=by rw[hHp,hHq];rfl
     rw[<- e,List.length_append,List.length_append]
     simp only[List.length_cons,List.length_nil]
     omega)
    rw[HNx.o]at this
    exact this
   have HWto:Hid (∀W,Below w3.heap.size w3 W->cu w0.heap.size b (l++([91]++fK (fN S) j)) nm w W):=fun W hW=>HT3.o.then hW
   obtain⟨P1,hP1⟩:∃P1:ByteArray,P1=⟨Hp.toArray⟩:=⟨_,rfl⟩
   obtain⟨P2,hP2⟩:∃P2:ByteArray,P2=⟨Hq.toArray⟩:=⟨_,rfl⟩
   rw[<- hP1]at HH1 HP5
   rw[<- hP2]at HH2 HP5
   have e5:(j:Int)<(sl:Int):=by omega
   have e6:(0:Int)<=(j:Int):=by omega
   have hkw:IntKind.i64.wrap ((j:Int)+1)=(j:Int)+1:=by rw[IntKind.wrap_i64];omega
   have HBc:Hid (Below w3.heap.size w3 w3.drew):=⟨rfl,rfl,rfl,U _,fun _ _=>rfl⟩
   simp only[JW]at hw3
   clear hb02 hup hlenj hr hX3 hb3 hs2 hto3 hTab3 hHp hHq hP1 hP2 HNx HT HT3 o1 o2 o3 hjS
   go_upto_region 6 with fail
   rw[<- hw3, <-hbx]
   clear hw3 hbx m0 m1
   obtain⟨f0,f1⟩:=HX3.o _ HBc.o
   go_region_with (first
    | (go_at_call 60;first
      |(refine(HH1.o _ HBc.o).mono ?_;rintro e w4 ⟨rfl,hb4⟩;replace HBc:=I (HBc.o.trans (hb4.mono HBc.o.size));clear hb4 f0 f1;obtain⟨f0,f1⟩:=HX3.o _ HBc.o)
      |(refine(HH2.o _ HBc.o).mono ?_;rintro e w4 ⟨rfl,hb4⟩;replace HBc:=I (HBc.o.trans (hb4.mono HBc.o.size));clear hb4 f0 f1;obtain⟨f0,f1⟩:=HX3.o _ HBc.o))
    |(go_at_call 43;refine(HP5.o _ HBc.o).mono ?_;rintro e w5 ⟨rfl,hto5⟩;have HT5:=I ((HWto.o _ HBc.o).trans hto5);clear hto5 f0 f1))
   all_goals go_wp2
   all_goals go_roundw
   all_goals first|exact⟨j+1,by omega,by go_num,HT5.o⟩|(simp[intOf];omega)
  ·have e5:¬(j:Int)<(sl:Int):=by omega
   have hjm:j=sl:=by omega
   subst hjm
   have HP:=I (HPend.o w2 HT.o.1)
   clear HPend
   go_wp2_with fail
   refine HP.o.mono ?_
   rintro e w' ⟨rfl,hto⟩
   have HTT:=I (HT.o.trans hto)
   clear hto HP HT
   go_wp2
   first|(go_end0;exact⟨rfl,HTT.o⟩)|(go_ret;exact⟨rfl,HTT.o⟩)
theorem Hb(w0:World)(b:Nat)(l:List UInt8)(nm:Value)(sa:Option Addr)(sl sc:Nat)(S:RL)(w:World)(h:Wr w0.heap.size b l nm w)(hw0:Below w0.heap.size w0 w)(hT:iP w0)(hS:Reads w0 (.slice sa sl sc) S)(hok:∀r∈S,er r)(h4:S.length<=400)(hlen:l.length+(fg S).length<=140737488355328):
  Calls prog 38 #[.pointer (some ⟨b,0,none⟩),.slice sa sl sc] w fun e w'=>e=.returned (.tuple #[])/\cu w0.heap.size b (l++fg S) nm w w':=by
 by_cases h0:S.length=0
 ·have e:fg S=oz:=by unfold fg;rw[if_pos h0]
  have hsl:sl=0:=by
   rcases hS with⟨e,_⟩|⟨x,c,e,_⟩
   ·injection e
   ·injection e with _ e2;omega
  rw[e]at hlen |-
  subst hsl
  exact DW _ b l nm sa sc w h hlen
 ·rcases hS with⟨e,rfl⟩|⟨x,c,e,hc⟩
  ·exact absurd rfl h0
  ·injection e with e1 e2 e3
   subst e1
   exact Ff w0 b l nm x sl sc S w h hw0 hT e2 hc hok h4 h0 hlen
end Go.Proofs.YtklbbbldalmnbaaGreatDoor.TR
