import Derived.Test.YtfnndcbjklppeaaGreatDoorUF2
import Derived.Deep.QuietTactic
import Derived.BigQuiet
import Derived.Deep.Cut
import Derived.StillTailTactics
import Derived.Deep.RegionLaw
import Derived.Deep.AppendLies
set_option maxHeartbeats 8000000
set_option maxRecDepth 100000
set_option linter.unusedVariables false
open Go.Proofs.Tryz
namespace Go.Proofs.YtfnndcbjklppeaaGreatDoor
open Go.RowKit
theorem node_other(w0:World)(n:NV)(set:RL)(ks:List Tr)(vs:Nat→NV)(h0:NodeC w0 n (.mk n.kind n.num n.least n.most n.way n.fold set ks))(hk:KidsC w0 n.ka n.kl n.kc ks.length vs)(w:World)(hw0:Below w0.heap.size w0 w)(cb:Nat)(s:St)(hck:CK w0.heap.size w cb s)(hkd:1≤n.kind∧n.kind≤18)(hok:(kidsB (.mk n.kind n.num n.least n.most n.way n.fold set ks)&&fieldsB (.mk n.kind n.num n.least n.most n.way n.fold set ks))=true)(hzs:checkE set=0)(hne:n.kind≠12∧n.kind≠11∧n.kind≠18)(hsz:0≤s.1∧s.1+szL ks+1≤1000000∧s.2.length+szL ks+1≤1000000)(ih:∀j (hj:j<ks.length) (W:World) (s:St),Below w0.heap.size w0 W→CK w0.heap.size W cb s→0≤s.1∧s.1+szT ks[j]≤1000000∧s.2.length+szT ks[j]≤1000000→Calls prog 101 #[.pointer (some ⟨cb,0,none⟩),nvV (vs j)] W fun e w'=>NodeE w0.heap.size (chkT ks[j] s) cb W e w'):Calls prog 101 #[.pointer (some ⟨cb,0,none⟩),nvV n] w fun e w'=>NodeE w0.heap.size (chkT (.mk n.kind n.num n.least n.most n.way n.fold set ks) s) cb w e w':=by
 have h:=h0.keep hw0
 have hr:=h.open.2.2.2.2.2.2.1
 obtain⟨t,ht⟩:=named (Tr.mk n.kind n.num n.least n.most n.way n.fold set ks)
 have hset:t.set=set:=by rw[ht];rfl
 rw[← ht]at h hr hok ⊢
 rw[← hset]at hzs
 have hb:Below w.heap.size w (w.alloc (nvO n)):=allocB _ _
 rw[Bool.and_eq_true]at hok
 have HHK:=hide (fun W (hW:Below w.heap.size w W)=>hasItsKids_any n t W (h.keep hW))
 have HHF:=hide (fun W (hW:Below w.heap.size w W)=>hasItsFields_any n t W (h.keep hW))
 have HHR:=hide (fun W (hW:Below w.heap.size w W)=>checkRepeat_any n t W (h.keep hW))
 have HSC:=hide (fun W (hW:Below w.heap.size w W)=>check_any _ t.set W (hr.below hW))
 rw[hok.1]at HHK
 rw[hok.2]at HHF
 rw[hzs]at HSC
 have HY:=hide (fun k W=>must_yes k W)
 have HM:Hid (∀k W,Calls prog 138 #[.bool false,.int .i64 k] W fun e w'=>e=.panicked [{ v:=.iface 26 (.int .i64 k),recovered:=false }]∧W=w'):=fun k W=>must_no k W
 have HKL:Hid (n.kl=ks.length):=hk.len
 have HK:=hide hk
 have HW0:=hide hw0
 obtain⟨w1,hw1⟩:=named (w.alloc (nvO n))
 have hbox:w1.heap[w.heap.size]? =some (nvO n):=by rw[hw1];exact at_new _ _
 rw[← hw1]at hb
 have HB1:=hide hb
 have HX1:=hide hbox
 have HCK:=hide hck
 obtain⟨d0,d1,d2,d3,d4,d5,d6,d7⟩:=nv_cells hbox
 simp only[nvO]at hw1
 obtain⟨g1,g2⟩:=hkd
 have HIH:=hide ih
 have HFin:Hid (chkT t s=chkL ks s):=by
  show _=_
  rw[chkT_kids]
  have hn:nodeS t s=.ok s:=by
   unfold nodeS
   have hkk:t.kind=n.kind:=by rw[ht];rfl
   have hnn:t.num=n.num:=by rw[ht];rfl
   rw[hkk,hnn,if_neg (by omega),if_neg (by rw[hok.1,hok.2];decide),if_neg (by omega)]
   rw[if_neg (by omega),if_neg (by omega),if_neg (by omega)]
  rw[hn,ht];rfl
 have b12:(n.kind==12)=false:=by simp only[beq_eq_false_iff_ne,ne_eq];omega
 have b11:(n.kind==11)=false:=by simp only[beq_eq_false_iff_ne,ne_eq];omega
 have b18:(n.kind==18)=false:=by simp only[beq_eq_false_iff_ne,ne_eq];omega
 clear hne
 clear h0 h hr hok hzs hset ht hbox hb hk hw0 hck ih
 go_enter func101,ntmps101
 go_wp2_with fail
 rw[← hw1]
 clear hw1
 refine(HY.out 7 w1).mono ?_
 rintro e w' ⟨rfl,rfl⟩
 go_wp2_with fail
 refine(HHK.out w1 HB1.out).mono ?_
 rintro e w2 ⟨rfl,hb2⟩
 have HB2:=hide (HB1.out.andT hb2)
 have HX2:=hide (show w2.heap[w.heap.size]? =some (nvO n) by rw[hb2.block _ (lt_of_block HX1.out)];exact HX1.out)
 clear hb2 HB1 HX1 d0 d1 d2 d3 d4 d5 d6 d7
 obtain⟨d0,d1,d2,d3,d4,d5,d6,d7⟩:=nv_cells HX2.out
 go_wp2_with fail
 refine(HHF.out w2 HB2.out).mono ?_
 rintro e w3 ⟨rfl,hb3⟩
 have HB3:=hide (HB2.out.andT hb3)
 have HX3:=hide (show w3.heap[w.heap.size]? =some (nvO n) by rw[hb3.block _ (lt_of_block HX2.out)];exact HX2.out)
 clear hb3 HB2 HX2 d0 d1 d2 d3 d4 d5 d6 d7
 obtain⟨d0,d1,d2,d3,d4,d5,d6,d7⟩:=nv_cells HX3.out
 go_wp2_with fail
 refine(HY.out 1 w3).mono ?_
 rintro e w' ⟨rfl,rfl⟩
 go_wp2_with fail
 refine(HSC.out w3 HB3.out).mono ?_
 rintro e w4 ⟨rfl,hb4⟩
 have HB4:=hide (HB3.out.andT hb4)
 have HX4:=hide (show w4.heap[w.heap.size]? =some (nvO n) by rw[hb4.block _ (lt_of_block HX3.out)];exact HX3.out)
 clear hb4 HB3 HX3 d0 d1 d2 d3 d4 d5 d6 d7
 obtain⟨d0,d1,d2,d3,d4,d5,d6,d7⟩:=nv_cells HX4.out
 go_wp2_with fail
 refine(HY.out 0 w4).mono ?_
 rintro e w' ⟨rfl,rfl⟩
 have HC4:=hide (HCK.out.keep HB4.out)
 have HBw:Hid (Below w0.heap.size w w4):=HB4.out.mono HW0.out.size
 go_wp2
 clear d0 d1 d2 d3 d4 d5 d6 d7
 have hsz2:=hsz
 go_loopw [69] (fun t wr=>∃(j:Nat) (s2:St),j≤ks.length∧t=.int .i64 j∧chkL ks s=chkL (ks.drop j) s2∧CK w0.heap.size wr cb s2∧(0≤s2.1∧s2.1+szL (ks.drop j)≤1000000∧s2.2.length+szL (ks.drop j)≤1000000)∧Below w0.heap.size w wr) (fun t _=>ks.length - (intOf t).toNat)
 case atStart=>exact⟨0,s,Nat.zero_le _,rfl,rfl,HC4.out,by have h:=hsz2;simp only[List.drop_zero];omega,HBw.out⟩
 case round=>
  obtain⟨j,s2,hj,rfl,hE,hck2,hbd,hb⟩:=hrel
  have HE:=hide hE
  have HBr:=hide hb
  have HCr:=hide hck2
  obtain⟨w20,hw20⟩:=named wr
  subst hw20
  clear hb hE hck2
  by_cases hlt:j<ks.length
  ·have e2:(j:Int)<(n.kl:Int):=by have:=HKL.out;omega
   have e4:(0:Int)≤(j:Int):=by omega
   rcases HK.out with⟨_,_,_,h00⟩|⟨x,hx,hkk,hmx,hcl⟩
   ·exact absurd h00 (by omega)
   ·obtain ⟨d0,d1,d2,d3,d4,d5,d6,d7⟩:=(hcl j hlt).below (HW0.out.trans HBr.out)
    have hszj:=szL_drop hlt
    have hB3:Below w20.heap.size w20 (w20.alloc (nvO (vs j))):=allocB _ _
    have HC:=hide (HIH.out j hlt (w20.alloc (nvO (vs j))) s2 (HW0.out.trans (HBr.out.trans (hB3.mono (Nat.le_trans HW0.out.size HBr.out.size)))) (HCr.out.keep hB3) (by omega))
    obtain⟨w21,hw21⟩:=named (w20.alloc (nvO (vs j)))
    have hbx:w21.heap[w20.heap.size]? =some (nvO (vs j)):=by rw[hw21];exact at_new _ _
    rw[← hw21]at HC hB3
    have HB21:=hide (HBr.out.trans (hB3.mono (Nat.le_trans HW0.out.size HBr.out.size)))
    obtain⟨b0,b1,b2,b3,b4,b5,b6,b7⟩:=nv_cells hbx
    simp only[nvO]at hw21
    have hjw:IntKind.i64.wrap ((j:Int)+1)=(j:Int)+1:=by rw[IntKind.wrap_i64];omega
    have HD:=hide (chkL_drop hlt s2)
    have HBD:=hide hbd
    have HSJ:=hide hszj
    rw[hx]
    clear hcl hx hkk hB3 hbx hszj hbd
    go_wp2_with fail
    rw[← hw21]
    clear hw21
    refine HC.out.mono ?_
    rintro e w22 ⟨hb22,⟨s3,hR,rfl,hck3⟩|⟨z,hR,rfl⟩⟩
    ·have HB22:=hide (HB21.out.trans hb22)
     have HC3:=hide hck3
     have hgr:=chkT_grow _ _ _ hR
     have HNx:Hid (chkL ks s=chkL (ks.drop (j+1)) s3):=by show _=_;rw[HE.out,HD.out,hR]
     have HBd3:Hid (0≤s3.1∧s3.1+szL (ks.drop (j+1))≤1000000∧s3.2.length+szL (ks.drop (j+1))≤1000000):=by have:=HBD.out;have:=HSJ.out;show _∧_∧_;omega
     clear hb22 hck3 hgr hR HC HBD
     go_wp2
     go_roundw
     case rel=>exact⟨j+1,s3,by omega,by go_num,HNx.out,HC3.out,HBd3.out,HB22.out⟩
     case measure=>simp[intOf];omega
    ·have HB22:=hide (HB21.out.trans hb22)
     have hF:Hid (chkT t s=.error z):=by show _=_;rw[HFin.out,HE.out,HD.out,hR]
     clear hb22 hR HC
     go_wp2
     exact⟨rfl,HB22.out,.inr ⟨z,hF.out,rfl⟩⟩
  ·have e2:¬(j:Int)<(n.kl:Int):=by have:=HKL.out;omega
   have hF:Hid (chkT t s=.ok s2):=by
    show _=_
    rw[HFin.out,HE.out,List.drop_eq_nil_of_le (by omega)];rfl
   go_wp2
   go_end0
   exact⟨HBr.out,.inl ⟨s2,hF.out,rfl,HCr.out⟩⟩
theorem node_group(w0:World)(n:NV)(set:RL)(ks:List Tr)(vs:Nat→NV)(h0:NodeC w0 n (.mk n.kind n.num n.least n.most n.way n.fold set ks))(hk:KidsC w0 n.ka n.kl n.kc ks.length vs)(w:World)(hw0:Below w0.heap.size w0 w)(cb:Nat)(s:St)(hck:CK w0.heap.size w cb s)(hkd:1≤n.kind∧n.kind≤18)(hok:(kidsB (.mk n.kind n.num n.least n.most n.way n.fold set ks)&&fieldsB (.mk n.kind n.num n.least n.most n.way n.fold set ks))=true)(hzs:checkE set=0)(hk11:n.kind=11)(hnum:n.num=s.1+1)(hsz:0≤s.1∧s.1+szL ks+1≤1000000∧s.2.length+szL ks+1≤1000000)(ih:∀j (hj:j<ks.length) (W:World) (s:St),Below w0.heap.size w0 W→CK w0.heap.size W cb s→0≤s.1∧s.1+szT ks[j]≤1000000∧s.2.length+szT ks[j]≤1000000→Calls prog 101 #[.pointer (some ⟨cb,0,none⟩),nvV (vs j)] W fun e w'=>NodeE w0.heap.size (chkT ks[j] s) cb W e w'):Calls prog 101 #[.pointer (some ⟨cb,0,none⟩),nvV n] w fun e w'=>NodeE w0.heap.size (chkT (.mk n.kind n.num n.least n.most n.way n.fold set ks) s) cb w e w':=by
 have h:=h0.keep hw0
 have hr:=h.open.2.2.2.2.2.2.1
 obtain⟨t,ht⟩:=named (Tr.mk n.kind n.num n.least n.most n.way n.fold set ks)
 have hset:t.set=set:=by rw[ht];rfl
 rw[← ht]at h hr hok ⊢
 rw[← hset]at hzs
 have hb:Below w.heap.size w (w.alloc (nvO n)):=allocB _ _
 rw[Bool.and_eq_true]at hok
 have HHK:=hide (fun W (hW:Below w.heap.size w W)=>hasItsKids_any n t W (h.keep hW))
 have HHF:=hide (fun W (hW:Below w.heap.size w W)=>hasItsFields_any n t W (h.keep hW))
 have HHR:=hide (fun W (hW:Below w.heap.size w W)=>checkRepeat_any n t W (h.keep hW))
 have HSC:=hide (fun W (hW:Below w.heap.size w W)=>check_any _ t.set W (hr.below hW))
 rw[hok.1]at HHK
 rw[hok.2]at HHF
 rw[hzs]at HSC
 have HY:=hide (fun k W=>must_yes k W)
 have HM:Hid (∀k W,Calls prog 138 #[.bool false,.int .i64 k] W fun e w'=>e=.panicked [{ v:=.iface 26 (.int .i64 k),recovered:=false }]∧W=w'):=fun k W=>must_no k W
 have HKL:Hid (n.kl=ks.length):=hk.len
 have HK:=hide hk
 have HW0:=hide hw0
 obtain⟨w1,hw1⟩:=named (w.alloc (nvO n))
 have hbox:w1.heap[w.heap.size]? =some (nvO n):=by rw[hw1];exact at_new _ _
 rw[← hw1]at hb
 have HB1:=hide hb
 have HX1:=hide hbox
 have HCK:=hide hck
 obtain⟨d0,d1,d2,d3,d4,d5,d6,d7⟩:=nv_cells hbox
 simp only[nvO]at hw1
 obtain⟨g1,g2⟩:=hkd
 have HIH:=hide ih
 have HFin:Hid (chkT t s=chkL ks (s.1+1,s.2)):=by
  show _=_
  rw[chkT_kids]
  have hn:nodeS t s=.ok (s.1+1,s.2):=by
   unfold nodeS
   have hkk:t.kind=n.kind:=by rw[ht];rfl
   have hnn:t.num=n.num:=by rw[ht];rfl
   rw[hkk,hnn,if_neg (by omega),if_neg (by rw[hok.1,hok.2];decide),if_neg (by omega)]
   rw[if_neg (by omega),if_pos hk11,if_pos hnum]
  rw[hn,ht];rfl
 have b12:(n.kind==12)=false:=by simp only[beq_eq_false_iff_ne,ne_eq];omega
 have b11:(n.kind==11)=true:=by simpa using hk11
 have HNu:=hide hnum
 clear hk11 hnum
 clear h0 h hr hok hzs hset ht hbox hb hk hw0 hck ih
 go_enter func101,ntmps101
 go_wp2_with fail
 rw[← hw1]
 clear hw1
 refine(HY.out 7 w1).mono ?_
 rintro e w' ⟨rfl,rfl⟩
 go_wp2_with fail
 refine(HHK.out w1 HB1.out).mono ?_
 rintro e w2 ⟨rfl,hb2⟩
 have HB2:=hide (HB1.out.andT hb2)
 have HX2:=hide (show w2.heap[w.heap.size]? =some (nvO n) by rw[hb2.block _ (lt_of_block HX1.out)];exact HX1.out)
 clear hb2 HB1 HX1 d0 d1 d2 d3 d4 d5 d6 d7
 obtain⟨d0,d1,d2,d3,d4,d5,d6,d7⟩:=nv_cells HX2.out
 go_wp2_with fail
 refine(HHF.out w2 HB2.out).mono ?_
 rintro e w3 ⟨rfl,hb3⟩
 have HB3:=hide (HB2.out.andT hb3)
 have HX3:=hide (show w3.heap[w.heap.size]? =some (nvO n) by rw[hb3.block _ (lt_of_block HX2.out)];exact HX2.out)
 clear hb3 HB2 HX2 d0 d1 d2 d3 d4 d5 d6 d7
 obtain⟨d0,d1,d2,d3,d4,d5,d6,d7⟩:=nv_cells HX3.out
 go_wp2_with fail
 refine(HY.out 1 w3).mono ?_
 rintro e w' ⟨rfl,rfl⟩
 go_wp2_with fail
 refine(HSC.out w3 HB3.out).mono ?_
 rintro e w4 ⟨rfl,hb4⟩
 have HB4:=hide (HB3.out.andT hb4)
 have HX4:=hide (show w4.heap[w.heap.size]? =some (nvO n) by rw[hb4.block _ (lt_of_block HX3.out)];exact HX3.out)
 clear hb4 HB3 HX3 d0 d1 d2 d3 d4 d5 d6 d7
 obtain⟨d0,d1,d2,d3,d4,d5,d6,d7⟩:=nv_cells HX4.out
 go_wp2_with fail
 refine(HY.out 0 w4).mono ?_
 rintro e w' ⟨rfl,rfl⟩
 have HC4:=hide (HCK.out.keep HB4.out)
 obtain⟨cv,c0,c1, -, -,cf,clt⟩:=HC4.out.cells
 have clw:cb<w.heap.size:=(HCK.out.cells).choose_spec.2.2.2.2.2
 have cn1:¬cb=w.heap.size:=by omega
 have cn2:¬w.heap.size=cb:=by omega
 have hgw:IntKind.i64.wrap (s.1+1)=s.1+1:=by rw[IntKind.wrap_i64];omega
 go_upto_region 10 with fail
 obtain⟨w5,hw5⟩:=named (w4.setCell ⟨cb,0,none⟩ (.int .i64 (s.1+1)))
 have HC5:=hide (HC4.out.groups (s.1+1))
 have HX5:Hid (w5.heap[w.heap.size]? =some (nvO n)):=by show _=_;rw[hw5,Below.heap_setCell _ _ _ _ cn2];exact HX4.out
 have HBw:Hid (Below w0.heap.size w w5):=by show Below _ _ _;rw[hw5];exact(HB4.out.mono HW0.out.size).setCell (HCK.out.1) _
 rw[← hw5]at HC5
 rw[← hw5]
 clear hw5 d0 d1 d2 d3 d4 d5 d6 d7 c0 c1 cf clt HX4
 obtain⟨cv5,c0,c1, -, -,cf,clt⟩:=HC5.out.cells
 obtain⟨d0,d1,d2,d3,d4,d5,d6,d7⟩:=nv_cells HX5.out
 simp only at c0
 have hnq:=HNu.out
 rw[hnq]at d3
 clear hnq
 go_quiet (first|(go_at_call 138;exact Calls.quiet_of_same (must_yes' _ _)))
 go_wp2
 clear d0 d1 d2 d3 d4 d5 d6 d7
 have hsz2:=hsz
 go_loopw [69] (fun t wr=>∃(j:Nat) (s2:St),j≤ks.length∧t=.int .i64 j∧chkL ks (s.1+1,s.2)=chkL (ks.drop j) s2∧CK w0.heap.size wr cb s2∧(0≤s2.1∧s2.1+szL (ks.drop j)≤1000000∧s2.2.length+szL (ks.drop j)≤1000000)∧Below w0.heap.size w wr) (fun t _=>ks.length - (intOf t).toNat)
 case atStart=>exact⟨0,(s.1+1,s.2),Nat.zero_le _,rfl,rfl,HC5.out.keep ⟨rfl,rfl,rfl,leR _,fun _ _=>rfl⟩,by have h:=hsz2;simp only[List.drop_zero];omega,HBw.out.trans ⟨rfl,rfl,rfl,leR _,fun _ _=>rfl⟩⟩
 case round=>
  obtain⟨j,s2,hj,rfl,hE,hck2,hbd,hb⟩:=hrel
  have HE:=hide hE
  have HBr:=hide hb
  have HCr:=hide hck2
  obtain⟨w20,hw20⟩:=named wr
  subst hw20
  clear hb hE hck2
  by_cases hlt:j<ks.length
  ·have e2:(j:Int)<(n.kl:Int):=by have:=HKL.out;omega
   have e4:(0:Int)≤(j:Int):=by omega
   rcases HK.out with⟨_,_,_,h00⟩|⟨x,hx,hkk,hmx,hcl⟩
   ·exact absurd h00 (by omega)
   ·obtain ⟨d0,d1,d2,d3,d4,d5,d6,d7⟩:=(hcl j hlt).below (HW0.out.trans HBr.out)
    have hszj:=szL_drop hlt
    have hB3:Below w20.heap.size w20 (w20.alloc (nvO (vs j))):=allocB _ _
    have HC:=hide (HIH.out j hlt (w20.alloc (nvO (vs j))) s2 (HW0.out.trans (HBr.out.trans (hB3.mono (Nat.le_trans HW0.out.size HBr.out.size)))) (HCr.out.keep hB3) (by omega))
    obtain⟨w21,hw21⟩:=named (w20.alloc (nvO (vs j)))
    have hbx:w21.heap[w20.heap.size]? =some (nvO (vs j)):=by rw[hw21];exact at_new _ _
    rw[← hw21]at HC hB3
    have HB21:=hide (HBr.out.trans (hB3.mono (Nat.le_trans HW0.out.size HBr.out.size)))
    obtain⟨b0,b1,b2,b3,b4,b5,b6,b7⟩:=nv_cells hbx
    simp only[nvO]at hw21
    have hjw:IntKind.i64.wrap ((j:Int)+1)=(j:Int)+1:=by rw[IntKind.wrap_i64];omega
    have HD:=hide (chkL_drop hlt s2)
    have HBD:=hide hbd
    have HSJ:=hide hszj
    rw[hx]
    clear hcl hx hkk hB3 hbx hszj hbd
    go_wp2_with fail
    rw[← hw21]
    clear hw21
    refine HC.out.mono ?_
    rintro e w22 ⟨hb22,⟨s3,hR,rfl,hck3⟩|⟨z,hR,rfl⟩⟩
    ·have HB22:=hide (HB21.out.trans hb22)
     have HC3:=hide hck3
     have hgr:=chkT_grow _ _ _ hR
     have HNx:Hid (chkL ks (s.1+1,s.2)=chkL (ks.drop (j+1)) s3):=by show _=_;rw[HE.out,HD.out,hR]
     have HBd3:Hid (0≤s3.1∧s3.1+szL (ks.drop (j+1))≤1000000∧s3.2.length+szL (ks.drop (j+1))≤1000000):=by have:=HBD.out;have:=HSJ.out;show _∧_∧_;omega
     clear hb22 hck3 hgr hR HC HBD
     go_wp2
     go_roundw
     case rel=>exact⟨j+1,s3,by omega,by go_num,HNx.out,HC3.out,HBd3.out,HB22.out⟩
     case measure=>simp[intOf];omega
    ·have HB22:=hide (HB21.out.trans hb22)
     have hF:Hid (chkT t s=.error z):=by show _=_;rw[HFin.out,HE.out,HD.out,hR]
     clear hb22 hR HC
     go_wp2
     exact⟨rfl,HB22.out,.inr ⟨z,hF.out,rfl⟩⟩
  ·have e2:¬(j:Int)<(n.kl:Int):=by have:=HKL.out;omega
   have hF:Hid (chkT t s=.ok s2):=by
    show _=_
    rw[HFin.out,HE.out,List.drop_eq_nil_of_le (by omega)];rfl
   go_wp2
   go_end0
   exact⟨HBr.out,.inl ⟨s2,hF.out,rfl,HCr.out⟩⟩
theorem node_groupbad(w0:World)(n:NV)(set:RL)(ks:List Tr)(vs:Nat→NV)(h0:NodeC w0 n (.mk n.kind n.num n.least n.most n.way n.fold set ks))(hk:KidsC w0 n.ka n.kl n.kc ks.length vs)(w:World)(hw0:Below w0.heap.size w0 w)(cb:Nat)(s:St)(hck:CK w0.heap.size w cb s)(hkd:1≤n.kind∧n.kind≤18)(hok:(kidsB (.mk n.kind n.num n.least n.most n.way n.fold set ks)&&fieldsB (.mk n.kind n.num n.least n.most n.way n.fold set ks))=true)(hzs:checkE set=0)(hk11:n.kind=11)(hnum:n.num≠s.1+1)(hsz:0≤s.1∧s.1+szL ks+1≤1000000):Calls prog 101 #[.pointer (some ⟨cb,0,none⟩),nvV n] w fun e w'=>e=.panicked [{ v:=.iface 26 (.int .i64 4),recovered:=false }]∧Below w0.heap.size w w':=by
 have h:=h0.keep hw0
 have hr:=h.open.2.2.2.2.2.2.1
 obtain⟨t,ht⟩:=named (Tr.mk n.kind n.num n.least n.most n.way n.fold set ks)
 have hset:t.set=set:=by rw[ht];rfl
 rw[← ht]at h hr hok
 rw[← hset]at hzs
 have hb:Below w.heap.size w (w.alloc (nvO n)):=allocB _ _
 rw[Bool.and_eq_true]at hok
 have HHK:=hide (fun W (hW:Below w.heap.size w W)=>hasItsKids_any n t W (h.keep hW))
 have HHF:=hide (fun W (hW:Below w.heap.size w W)=>hasItsFields_any n t W (h.keep hW))
 have HHR:=hide (fun W (hW:Below w.heap.size w W)=>checkRepeat_any n t W (h.keep hW))
 have HSC:=hide (fun W (hW:Below w.heap.size w W)=>check_any _ t.set W (hr.below hW))
 rw[hok.1]at HHK
 rw[hok.2]at HHF
 rw[hzs]at HSC
 have HY:=hide (fun k W=>must_yes k W)
 have HM:Hid (∀k W,Calls prog 138 #[.bool false,.int .i64 k] W fun e w'=>e=.panicked [{ v:=.iface 26 (.int .i64 k),recovered:=false }]∧W=w'):=fun k W=>must_no k W
 have HKL:Hid (n.kl=ks.length):=hk.len
 have HK:=hide hk
 have HW0:=hide hw0
 obtain⟨w1,hw1⟩:=named (w.alloc (nvO n))
 have hbox:w1.heap[w.heap.size]? =some (nvO n):=by rw[hw1];exact at_new _ _
 rw[← hw1]at hb
 have HB1:=hide hb
 have HX1:=hide hbox
 have HCK:=hide hck
 obtain⟨d0,d1,d2,d3,d4,d5,d6,d7⟩:=nv_cells hbox
 simp only[nvO]at hw1
 obtain⟨g1,g2⟩:=hkd
 have b12:(n.kind==12)=false:=by simp only[beq_eq_false_iff_ne,ne_eq];omega
 have b11:(n.kind==11)=true:=by simpa using hk11
 have hnb:(n.num==s.1+1)=false:=by simpa using hnum
 clear h0 h hr hok hzs hset ht hbox hb hk hw0 hck hk11 hnum
 go_enter func101,ntmps101
 go_wp2_with fail
 rw[← hw1]
 clear hw1
 refine(HY.out 7 w1).mono ?_
 rintro e w' ⟨rfl,rfl⟩
 go_wp2_with fail
 refine(HHK.out w1 HB1.out).mono ?_
 rintro e w2 ⟨rfl,hb2⟩
 have HB2:=hide (HB1.out.andT hb2)
 have HX2:=hide (show w2.heap[w.heap.size]? =some (nvO n) by rw[hb2.block _ (lt_of_block HX1.out)];exact HX1.out)
 clear hb2 HB1 HX1 d0 d1 d2 d3 d4 d5 d6 d7
 obtain⟨d0,d1,d2,d3,d4,d5,d6,d7⟩:=nv_cells HX2.out
 go_wp2_with fail
 refine(HHF.out w2 HB2.out).mono ?_
 rintro e w3 ⟨rfl,hb3⟩
 have HB3:=hide (HB2.out.andT hb3)
 have HX3:=hide (show w3.heap[w.heap.size]? =some (nvO n) by rw[hb3.block _ (lt_of_block HX2.out)];exact HX2.out)
 clear hb3 HB2 HX2 d0 d1 d2 d3 d4 d5 d6 d7
 obtain⟨d0,d1,d2,d3,d4,d5,d6,d7⟩:=nv_cells HX3.out
 go_wp2_with fail
 refine(HY.out 1 w3).mono ?_
 rintro e w' ⟨rfl,rfl⟩
 go_wp2_with fail
 refine(HSC.out w3 HB3.out).mono ?_
 rintro e w4 ⟨rfl,hb4⟩
 have HB4:=hide (HB3.out.andT hb4)
 have HX4:=hide (show w4.heap[w.heap.size]? =some (nvO n) by rw[hb4.block _ (lt_of_block HX3.out)];exact HX3.out)
 clear hb4 HB3 HX3 d0 d1 d2 d3 d4 d5 d6 d7
 obtain⟨d0,d1,d2,d3,d4,d5,d6,d7⟩:=nv_cells HX4.out
 go_wp2_with fail
 refine(HY.out 0 w4).mono ?_
 rintro e w' ⟨rfl,rfl⟩
 have HC4:=hide (HCK.out.keep HB4.out)
 obtain⟨cv,c0,c1, -, -,cf,clt⟩:=HC4.out.cells
 have clw:cb<w.heap.size:=(HCK.out.cells).choose_spec.2.2.2.2.2
 have cn1:¬cb=w.heap.size:=by omega
 have cn2:¬w.heap.size=cb:=by omega
 have hgw:IntKind.i64.wrap (s.1+1)=s.1+1:=by rw[IntKind.wrap_i64];omega
 go_upto_region 10 with fail
 obtain⟨w5,hw5⟩:=named (w4.setCell ⟨cb,0,none⟩ (.int .i64 (s.1+1)))
 have HC5:=hide (HC4.out.groups (s.1+1))
 have HX5:Hid (w5.heap[w.heap.size]? =some (nvO n)):=by show _=_;rw[hw5,Below.heap_setCell _ _ _ _ cn2];exact HX4.out
 have HBw:Hid (Below w0.heap.size w w5):=by show Below _ _ _;rw[hw5];exact(HB4.out.mono HW0.out.size).setCell (HCK.out.1) _
 rw[← hw5]at HC5
 rw[← hw5]
 clear hw5 d0 d1 d2 d3 d4 d5 d6 d7 c0 c1 cf clt HX4
 obtain⟨cv5,c0,c1, -, -,cf,clt⟩:=HC5.out.cells
 obtain⟨d0,d1,d2,d3,d4,d5,d6,d7⟩:=nv_cells HX5.out
 simp only at c0
 clear HX5
 go_still_tail 7,(by kernel_rfl)
 go_wp2_with fail
 refine(HM.out 4 _).mono ?_
 rintro e w' ⟨rfl,rfl⟩
 go_wp2
 exact⟨rfl,rfl,HBw.out.trans ⟨rfl,rfl,rfl,leR _,fun _ _=>rfl⟩⟩
theorem node_again(w0:World)(n:NV)(set:RL)(ks:List Tr)(vs:Nat→NV)(h0:NodeC w0 n (.mk n.kind n.num n.least n.most n.way n.fold set ks))(hk:KidsC w0 n.ka n.kl n.kc ks.length vs)(w:World)(hw0:Below w0.heap.size w0 w)(cb:Nat)(s:St)(hck:CK w0.heap.size w cb s)(hkd:1≤n.kind∧n.kind≤18)(hok:(kidsB (.mk n.kind n.num n.least n.most n.way n.fold set ks)&&fieldsB (.mk n.kind n.num n.least n.most n.way n.fold set ks))=true)(hzs:checkE set=0)(hk18:n.kind=18)(hsz:0≤s.1∧s.1+szL ks+1≤1000000∧s.2.length+szL ks+1≤1000000)(ih:∀j (hj:j<ks.length) (W:World) (s:St),Below w0.heap.size w0 W→CK w0.heap.size W cb s→0≤s.1∧s.1+szT ks[j]≤1000000∧s.2.length+szT ks[j]≤1000000→Calls prog 101 #[.pointer (some ⟨cb,0,none⟩),nvV (vs j)] W fun e w'=>NodeE w0.heap.size (chkT ks[j] s) cb W e w'):Calls prog 101 #[.pointer (some ⟨cb,0,none⟩),nvV n] w fun e w'=>NodeE w0.heap.size (chkT (.mk n.kind n.num n.least n.most n.way n.fold set ks) s) cb w e w':=by
 have h:=h0.keep hw0
 have hr:=h.open.2.2.2.2.2.2.1
 obtain⟨t,ht⟩:=named (Tr.mk n.kind n.num n.least n.most n.way n.fold set ks)
 have hset:t.set=set:=by rw[ht];rfl
 rw[← ht]at h hr hok ⊢
 rw[← hset]at hzs
 have hb:Below w.heap.size w (w.alloc (nvO n)):=allocB _ _
 rw[Bool.and_eq_true]at hok
 have HHK:=hide (fun W (hW:Below w.heap.size w W)=>hasItsKids_any n t W (h.keep hW))
 have HHF:=hide (fun W (hW:Below w.heap.size w W)=>hasItsFields_any n t W (h.keep hW))
 have HHR:=hide (fun W (hW:Below w.heap.size w W)=>checkRepeat_any n t W (h.keep hW))
 have HSC:=hide (fun W (hW:Below w.heap.size w W)=>check_any _ t.set W (hr.below hW))
 rw[hok.1]at HHK
 rw[hok.2]at HHF
 rw[hzs]at HSC
 have HY:=hide (fun k W=>must_yes k W)
 have HM:Hid (∀k W,Calls prog 138 #[.bool false,.int .i64 k] W fun e w'=>e=.panicked [{ v:=.iface 26 (.int .i64 k),recovered:=false }]∧W=w'):=fun k W=>must_no k W
 have HKL:Hid (n.kl=ks.length):=hk.len
 have HK:=hide hk
 have HW0:=hide hw0
 obtain⟨w1,hw1⟩:=named (w.alloc (nvO n))
 have hbox:w1.heap[w.heap.size]? =some (nvO n):=by rw[hw1];exact at_new _ _
 rw[← hw1]at hb
 have HB1:=hide hb
 have HX1:=hide hbox
 have HCK:=hide hck
 obtain⟨d0,d1,d2,d3,d4,d5,d6,d7⟩:=nv_cells hbox
 simp only[nvO]at hw1
 obtain⟨g1,g2⟩:=hkd
 have HIH:=hide ih
 have HFin:Hid (chkT t s=chkL ks (s.1,s.2++[n.num])):=by
  show _=_
  rw[chkT_kids]
  have hn:nodeS t s=.ok (s.1,s.2++[n.num]):=by
   unfold nodeS
   have hkk:t.kind=n.kind:=by rw[ht];rfl
   have hnn:t.num=n.num:=by rw[ht];rfl
   rw[hkk,hnn,if_neg (by omega),if_neg (by rw[hok.1,hok.2];decide),if_neg (by omega)]
   rw[if_neg (by omega),if_neg (by omega),if_pos hk18]
  rw[hn,ht];rfl
 have b12:(n.kind==12)=false:=by simp only[beq_eq_false_iff_ne,ne_eq];omega
 have b11:(n.kind==11)=false:=by simp only[beq_eq_false_iff_ne,ne_eq];omega
 have b18:(n.kind==18)=true:=by simpa using hk18
 clear hk18
 clear h0 h hr hok hzs hset ht hbox hb hk hw0 hck ih
 go_enter func101,ntmps101
 go_wp2_with fail
 rw[← hw1]
 clear hw1
 refine(HY.out 7 w1).mono ?_
 rintro e w' ⟨rfl,rfl⟩
 go_wp2_with fail
 refine(HHK.out w1 HB1.out).mono ?_
 rintro e w2 ⟨rfl,hb2⟩
 have HB2:=hide (HB1.out.andT hb2)
 have HX2:=hide (show w2.heap[w.heap.size]? =some (nvO n) by rw[hb2.block _ (lt_of_block HX1.out)];exact HX1.out)
 clear hb2 HB1 HX1 d0 d1 d2 d3 d4 d5 d6 d7
 obtain⟨d0,d1,d2,d3,d4,d5,d6,d7⟩:=nv_cells HX2.out
 go_wp2_with fail
 refine(HHF.out w2 HB2.out).mono ?_
 rintro e w3 ⟨rfl,hb3⟩
 have HB3:=hide (HB2.out.andT hb3)
 have HX3:=hide (show w3.heap[w.heap.size]? =some (nvO n) by rw[hb3.block _ (lt_of_block HX2.out)];exact HX2.out)
 clear hb3 HB2 HX2 d0 d1 d2 d3 d4 d5 d6 d7
 obtain⟨d0,d1,d2,d3,d4,d5,d6,d7⟩:=nv_cells HX3.out
 go_wp2_with fail
 refine(HY.out 1 w3).mono ?_
 rintro e w' ⟨rfl,rfl⟩
 go_wp2_with fail
 refine(HSC.out w3 HB3.out).mono ?_
 rintro e w4 ⟨rfl,hb4⟩
 have HB4:=hide (HB3.out.andT hb4)
 have HX4:=hide (show w4.heap[w.heap.size]? =some (nvO n) by rw[hb4.block _ (lt_of_block HX3.out)];exact HX3.out)
 clear hb4 HB3 HX3 d0 d1 d2 d3 d4 d5 d6 d7
 obtain⟨d0,d1,d2,d3,d4,d5,d6,d7⟩:=nv_cells HX4.out
 go_wp2_with fail
 refine(HY.out 0 w4).mono ?_
 rintro e w' ⟨rfl,rfl⟩
 have HC4:=hide (HCK.out.keep HB4.out)
 obtain⟨i0,hi,hz0,hz1,hz2⟩:=info_parts info3
 obtain⟨hBc,cv,hcc,ho,hne⟩:=HC4.out
 obtain⟨ro,rc,rfl⟩:=own_shape ho
 have clw:cb<w.heap.size:=(HCK.out.cells).choose_spec.2.2.2.2.2
 have cn1:¬cb=w.heap.size:=by omega
 have cn2:¬w.heap.size=cb:=by omega
 have HBw4:Hid (Below w0.heap.size w w4):=HB4.out.mono HW0.out.size
 have hB4:w0.heap.size≤w4.heap.size:=Nat.le_trans HW0.out.size HB4.out.size
 have hx4:w.heap.size<w4.heap.size:=lt_of_block HX4.out
 have hnx:(Value.slice ro s.2.length rc).ownBlock≠some w.heap.size:=fun e=>by
  obtain⟨cur,hcur⟩:=own_row_elem ho e
  have h2:=HX4.out
  rw[hcur]at h2
  exact absurd (Obj.cells.inj (Option.some.inj h2)).2.1 (by decide)
 have c0:w4.cell? ⟨cb,0,none⟩=some (.int .i64 s.1):=by simp[World.cell?,hcc]
 have c1:w4.cell? ⟨cb,1,none⟩=some (.slice ro s.2.length rc):=by simp[World.cell?,hcc]
 have HO:=hide ho
 have HCC:=hide hcc
 have HNE:=hide hne
 have HNX:=hide hnx
 have HBc:=hide hBc
 obtain⟨q,hq⟩:=named s.2.length
 have HQ:=hide hq
 have hq1:q+1≤1000000:=by omega
 rw[← hq]at c1
 clear ho hcc hne hnx hBc hq
 have HOq:Hid (w4.ownsRow w0.heap.size 3 1 (.slice ro q rc) q (i64s s.2)):=by show World.ownsRow _ _ _ _ _ _ _;rw[HQ.out];exact HO.out
 have HNXq:Hid ((Value.slice ro q rc).ownBlock≠some w.heap.size):=by show _≠_;rw[HQ.out];exact HNX.out
 have HC5q:Hid (∀(o:Obj) (w5:World),(w4.alloc o).drew.grownBy w5 (Value.slice ro q rc).ownBlock→w5.heap[cb]? =some (.cells #[.int .i64 s.1,.slice ro q rc] 155 (0,0))):=fun o w5 hg=>by
  have hq:=HQ.out
  subst hq
  rw[grown_at hg (lt_of_block HCC.out) HNE.out];exact HCC.out
 have c1a:=below_cell ((belR _ w4).alloc (leR _) (.cells #[.int .i64 n.num] 3)) (lt_of_cell c1) c1
 have clt4:cb<w4.heap.size:=lt_of_block HCC.out
 go_upto_region 12 with fail
 go_region_law
  ((refine step_append_lies _ (by rfl) _ _ _ (by rfl) w0.heap.size 3 i0 _ 1 8 underlying44 hi hz0 hz1 hz2 rfl (by omega) (.slice ro q rc) q (i64s s.2) (by rfl) ((HOq.out.alloc _).drew) ⟨w4.heap.size,0,none⟩ 1 1 [.int .i64 n.num] (by rfl) (by rfl) (World.news_of_block (cs:=#[.int .i64 n.num]) (t:=3) (fr:=(0,0)) (heap_alloc_new w4 _)) (by simp[Value.oneCell']) (by omega) (by unfold maxLen;omega) (by omega) (by first|(simp;done)|(simp;omega)) (w4.heap.size+1) (by simp) ?_;intro gg cap w5 hown1 hgrow hat hltt;have HG5:=hide hgrow;have HA5:=hide hat;have HOW:=hide hown1;have hcc5:=HC5q.out _ _ hgrow;have k1:w5.cell? ⟨cb,1,none⟩=some (.slice ro q rc):=(by simp[World.cell?,hcc5]);have k2:∀o,w5.frozen? ⟨cb,o,none⟩=false:=(by intro o;simp[World.frozen?,hcc5]);clear hat hown1 hcc5))
 all_goals
  obtain⟨w6,hw6⟩:=named (w5.setCell ⟨cb,1,none⟩ (.slice (some ⟨gg,0,none⟩) (q+1) cap))
  have HX6:Hid (w6.heap[w.heap.size]? =some (nvO n)):=by show _=_;rw[hw6,Below.heap_setCell _ _ _ _ (fun e=>cn2 e),grown_at HG5.out hx4 HNXq.out];exact HX4.out
  have HC6:Hid (CK w0.heap.size w6 cb (s.1,s.2++[n.num])):=by
   have hq:=HQ.out
   subst hq
   show CK _ _ _ _
   rw[hw6]
   exact CK.again HBc.out HCC.out HNE.out HG5.out HOW.out HA5.out
  have HBw:Hid (Below w0.heap.size w w6):=by
   show Below _ _ _
   rw[hw6]
   exact(grown_below HOq.out HBw4.out hB4 HG5.out).setCell HBc.out _
  rw[← hw6]
  clear hw6 d0 d1 d2 d3 d4 d5 d6 d7 c0 c1 c1a k1 k2
  obtain⟨d0,d1,d2,d3,d4,d5,d6,d7⟩:=nv_cells HX6.out
  go_wp2
  clear d0 d1 d2 d3 d4 d5 d6 d7
  have hsz2:=hsz
  go_loopw [69] (fun t wr=>∃(j:Nat) (s2:St),j≤ks.length∧t=.int .i64 j∧chkL ks (s.1,s.2++[n.num])=chkL (ks.drop j) s2∧CK w0.heap.size wr cb s2∧(0≤s2.1∧s2.1+szL (ks.drop j)≤1000000∧s2.2.length+szL (ks.drop j)≤1000000)∧Below w0.heap.size w wr) (fun t _=>ks.length - (intOf t).toNat)
  case atStart=>exact⟨0,(s.1,s.2++[n.num]),Nat.zero_le _,rfl,rfl,HC6.out,by have h:=hsz2;simp only[List.drop_zero,List.length_append,List.length_cons,List.length_nil];omega,HBw.out⟩
  case round=>
   obtain⟨j,s2,hj,rfl,hE,hck2,hbd,hb⟩:=hrel
   have HE:=hide hE
   have HBr:=hide hb
   have HCr:=hide hck2
   obtain⟨w20,hw20⟩:=named wr
   subst hw20
   clear hb hE hck2
   by_cases hlt:j<ks.length
   ·have e2:(j:Int)<(n.kl:Int):=by have:=HKL.out;omega
    have e4:(0:Int)≤(j:Int):=by omega
    rcases HK.out with⟨_,_,_,h00⟩|⟨x,hx,hkk,hmx,hcl⟩
    ·exact absurd h00 (by omega)
    ·obtain ⟨d0,d1,d2,d3,d4,d5,d6,d7⟩:=(hcl j hlt).below (HW0.out.trans HBr.out)
     have hszj:=szL_drop hlt
     have hB3:Below w20.heap.size w20 (w20.alloc (nvO (vs j))):=allocB _ _
     have HC:=hide (HIH.out j hlt (w20.alloc (nvO (vs j))) s2 (HW0.out.trans (HBr.out.trans (hB3.mono (Nat.le_trans HW0.out.size HBr.out.size)))) (HCr.out.keep hB3) (by omega))
     obtain⟨w21,hw21⟩:=named (w20.alloc (nvO (vs j)))
     have hbx:w21.heap[w20.heap.size]? =some (nvO (vs j)):=by rw[hw21];exact at_new _ _
     rw[← hw21]at HC hB3
     have HB21:=hide (HBr.out.trans (hB3.mono (Nat.le_trans HW0.out.size HBr.out.size)))
     obtain⟨b0,b1,b2,b3,b4,b5,b6,b7⟩:=nv_cells hbx
     simp only[nvO]at hw21
     have hjw:IntKind.i64.wrap ((j:Int)+1)=(j:Int)+1:=by rw[IntKind.wrap_i64];omega
     have HD:=hide (chkL_drop hlt s2)
     have HBD:=hide hbd
     have HSJ:=hide hszj
     rw[hx]
     clear hcl hx hkk hB3 hbx hszj hbd
     go_wp2_with fail
     rw[← hw21]
     clear hw21
     refine HC.out.mono ?_
     rintro e w22 ⟨hb22,⟨s3,hR,rfl,hck3⟩|⟨z,hR,rfl⟩⟩
     ·have HB22:=hide (HB21.out.trans hb22)
      have HC3:=hide hck3
      have hgr:=chkT_grow _ _ _ hR
      have HNx:Hid (chkL ks (s.1,s.2++[n.num])=chkL (ks.drop (j+1)) s3):=by show _=_;rw[HE.out,HD.out,hR]
      have HBd3:Hid (0≤s3.1∧s3.1+szL (ks.drop (j+1))≤1000000∧s3.2.length+szL (ks.drop (j+1))≤1000000):=by have:=HBD.out;have:=HSJ.out;show _∧_∧_;omega
      clear hb22 hck3 hgr hR HC HBD
      go_wp2
      go_roundw
      case rel=>exact⟨j+1,s3,by omega,by go_num,HNx.out,HC3.out,HBd3.out,HB22.out⟩
      case measure=>simp[intOf];omega
     ·have HB22:=hide (HB21.out.trans hb22)
      have hF:Hid (chkT t s=.error z):=by show _=_;rw[HFin.out,HE.out,HD.out,hR]
      clear hb22 hR HC
      go_wp2
      exact⟨rfl,HB22.out,.inr ⟨z,hF.out,rfl⟩⟩
   ·have e2:¬(j:Int)<(n.kl:Int):=by have:=HKL.out;omega
    have hF:Hid (chkT t s=.ok s2):=by
     show _=_
     rw[HFin.out,HE.out,List.drop_eq_nil_of_le (by omega)];rfl
    go_wp2
    go_end0
    exact⟨HBr.out,.inl ⟨s2,hF.out,rfl,HCr.out⟩⟩
theorem node_any{w0:World}{n:NV}{t:Tr}(h:NodeC w0 n t):∀(cb:Nat) (w:World) (s:St),Below w0.heap.size w0 w→CK w0.heap.size w cb s→0≤s.1∧s.1+szT t≤1000000∧s.2.length+szT t≤1000000→Calls prog 101 #[.pointer (some ⟨cb,0,none⟩),nvV n] w fun e w'=>NodeE w0.heap.size (chkT t s) cb w e w':=by
 induction h with
 |mk n set ks vs hs hk hkids ih=>
  intro cb w s hw0 hck hsz
  have h0:NodeC w0 n (.mk n.kind n.num n.least n.most n.way n.fold set ks):=.mk n set ks vs hs hk hkids
  have hN:=h0.keep hw0
  have hB:=hw0.size
  rw[szT]at hsz
  obtain⟨z1,z2,z3⟩:=hsz
  have hsz':0≤s.1∧s.1+szL ks+1≤1000000∧s.2.length+szL ks+1≤1000000:=⟨z1,by omega,by omega⟩
  have hih:∀j (hj:j<ks.length) (W:World) (s:St),Below w0.heap.size w0 W→CK w0.heap.size W cb s→0≤s.1∧s.1+szT ks[j]≤1000000∧s.2.length+szT ks[j]≤1000000→Calls prog 101 #[.pointer (some ⟨cb,0,none⟩),nvV (vs j)] W fun e w'=>NodeE w0.heap.size (chkT ks[j] s) cb W e w':=fun j hj W s=>ih j hj cb W s
  have err:∀z,nodeS (.mk n.kind n.num n.least n.most n.way n.fold set ks) s=.error z→chkT (.mk n.kind n.num n.least n.most n.way n.fold set ks) s=.error z:=fun z hz=>by rw[chkT_kids,hz]
  by_cases hkd:1≤n.kind∧n.kind≤18
  ·by_cases hok:(kidsB (.mk n.kind n.num n.least n.most n.way n.fold set ks)&&fieldsB (.mk n.kind n.num n.least n.most n.way n.fold set ks))=true
   ·by_cases hzs:checkE set=0
    ·by_cases h12:n.kind=12
     ·by_cases hrep:repE (.mk n.kind n.num n.least n.most n.way n.fold set ks)=0
      ·exact node_rep w0 n set ks vs h0 hk w hw0 cb s hck hkd hok hzs h12 hrep hsz' hih
      ·refine (node_repbad w0 n set ks vs h0 hk w hw0 cb s hck hkd hok hzs h12 hrep).mono ?_
       rintro e w' ⟨rfl,hb⟩
       refine⟨hb.mono hB,.inr ⟨_,err _ ?_,rfl⟩⟩
       unfold nodeS
       rw[if_neg (by show ¬ ¬(1≤n.kind∧n.kind≤18);omega),if_neg (by rw[hok];decide),if_neg (by show ¬checkE set≠0;omega),if_pos (show(Tr.mk n.kind n.num n.least n.most n.way n.fold set ks).kind=12 from h12),if_neg hrep]
     ·by_cases h11:n.kind=11
      ·by_cases hnum:n.num=s.1+1
       ·exact node_group w0 n set ks vs h0 hk w hw0 cb s hck hkd hok hzs h11 hnum hsz' hih
       ·refine (node_groupbad w0 n set ks vs h0 hk w hw0 cb s hck hkd hok hzs h11 hnum ⟨hsz'.1,hsz'.2.1⟩).mono ?_
        rintro e w' ⟨rfl,hb⟩
        refine⟨hb,.inr ⟨_,err _ ?_,rfl⟩⟩
        unfold nodeS
        rw[if_neg (by show ¬ ¬(1≤n.kind∧n.kind≤18);omega),if_neg (by rw[hok];decide),if_neg (by show ¬checkE set≠0;omega),if_neg (show ¬(Tr.mk n.kind n.num n.least n.most n.way n.fold set ks).kind=12 from h12),if_pos (show(Tr.mk n.kind n.num n.least n.most n.way n.fold set ks).kind=11 from h11),if_neg (show ¬(Tr.mk n.kind n.num n.least n.most n.way n.fold set ks).num=s.1+1 from hnum)]
      ·by_cases h18:n.kind=18
       ·exact node_again w0 n set ks vs h0 hk w hw0 cb s hck hkd hok hzs h18 hsz' hih
       ·exact node_other w0 n set ks vs h0 hk w hw0 cb s hck hkd hok hzs ⟨h12,h11,h18⟩ hsz' hih
    ·refine (node_set w0.heap.size n _ w cb s hN hB hck hkd hok hzs).mono ?_
     rintro e w' ⟨rfl,hb⟩
     refine⟨hb.mono hB,.inr ⟨_,err _ ?_,rfl⟩⟩
     unfold nodeS
     rw[if_neg (by show ¬ ¬(1≤n.kind∧n.kind≤18);omega),if_neg (by rw[hok];decide),if_pos (show checkE (Tr.mk n.kind n.num n.least n.most n.way n.fold set ks).set≠0 from hzs)]
   ·have hok':(kidsB (.mk n.kind n.num n.least n.most n.way n.fold set ks)&&fieldsB (.mk n.kind n.num n.least n.most n.way n.fold set ks))=false:=by simpa using hok
    refine(node_form w0.heap.size n _ w cb s hN hB hck hkd hok').mono ?_
    rintro e w' ⟨rfl,hb⟩
    refine⟨hb.mono hB,.inr ⟨_,err _ ?_,rfl⟩⟩
    unfold nodeS
    rw[if_neg (by show ¬ ¬(1≤n.kind∧n.kind≤18);omega),if_pos hok']
  ·refine (node_kind w0.heap.size n _ w cb s hN hB hck hkd).mono ?_
   rintro e w' ⟨rfl,hb⟩
   refine⟨hb.mono hB,.inr ⟨_,err _ ?_,rfl⟩⟩
   unfold nodeS
   rw[if_pos (show ¬(1≤(Tr.mk n.kind n.num n.least n.most n.way n.fold set ks).kind∧(Tr.mk n.kind n.num n.least n.most n.way n.fold set ks).kind≤18)from hkd)]
theorem own_some{B e:Nat}{w:World}{v:Value}{n k:Nat}{xs:List Value}(h:w.ownsRow B e k v n xs)(hn:1≤n):∃g cap,v=.slice (some ⟨g,0,none⟩) n cap:=by
 rcases h.2 with⟨rfl,rfl⟩|⟨g,cap,cur,rfl,_⟩
 ·omega
 ·exact⟨_,_,rfl⟩
def panE(z:Int):Ending:=if z=0 then .returned (.tuple #[])else .panicked [{ v:=.iface 26 (.int .i64 z),recovered:=false }]
theorem panE_yes:panE 0=.returned (.tuple #[]):=rfl
theorem panE_no{z:Int}(h:z≠0):panE z=.panicked [{ v:=.iface 26 (.int .i64 z),recovered:=false }]:=if_neg h
def countsE(s:St)(g:Int):Int:=if 20<s.1 then 2 else if s.1=g then 0 else 4
theorem HMust(k:Int)(W:World):Calls prog 138 #[.bool false,.int .i64 k] W fun e w'=>e=.panicked [{ v:=.iface 26 (.int .i64 k),recovered:=false }]∧W=w':=must_no k W
theorem counts_any(B:Nat)(cb:Nat)(s:St)(g:Int)(w:World)(h:CK B w cb s):Calls prog 102 #[.pointer (some ⟨cb,0,none⟩),.int .i64 g] w fun e w'=>e=panE (countsE s g)∧w=w':=by
 obtain⟨v,c0,c1, -, -,cf,clt⟩:=h.cells
 clear h
 by_cases h1:20<s.1
 ·have hE:countsE s g=2:=by unfold countsE;rw[if_pos h1]
  rw[hE,panE_no (by decide)]
  have h2:decide (s.1≤20)=false:=decide_eq_false (by omega)
  clear hE
  go_enter func102,ntmps102
  go_wp2_with fail
  refine(HMust 2 w).mono ?_
  rintro e w' ⟨rfl,rfl⟩
  go_wp2
  exact⟨rfl,rfl,rfl⟩
 ·have h2:s.1≤20:=by omega
  by_cases h3:s.1=g
  ·have hE:countsE s g=0:=by unfold countsE;rw[if_neg h1,if_pos h3]
   rw[hE,panE_yes]
   have h4:(s.1==g)=true:=by simpa using h3
   clear hE h1 h3
   go_enter func102,ntmps102
   go_wp2_with fail
   refine(must_yes 2 w).mono ?_
   rintro e w' ⟨rfl,rfl⟩
   go_wp2_with fail
   refine(must_yes 4 w).mono ?_
   rintro e w' ⟨rfl,rfl⟩
   go_wp2
   go_end0
   exact⟨rfl,rfl⟩
  ·have hE:countsE s g=4:=by unfold countsE;rw[if_neg h1,if_neg h3]
   rw[hE,panE_no (by decide)]
   have h4:(s.1==g)=false:=by simpa using h3
   clear hE h1 h3
   go_enter func102,ntmps102
   go_wp2_with fail
   refine(must_yes 2 w).mono ?_
   rintro e w' ⟨rfl,rfl⟩
   go_wp2_with fail
   refine(HMust 4 w).mono ?_
   rintro e w' ⟨rfl,rfl⟩
   go_wp2
   exact⟨rfl,rfl,rfl⟩
def numE(g a:Int):Int:=if 1≤a∧a≤g then 0 else 5
theorem number_any(B:Nat)(cb:Nat)(s:St)(a:Int)(w:World)(h:CK B w cb s):Calls prog 142 #[.pointer (some ⟨cb,0,none⟩),.int .i64 a] w fun e w'=>e=panE (numE s.1 a)∧w=w':=by
 obtain⟨v,c0,c1, -, -,cf,clt⟩:=h.cells
 clear h
 by_cases h1:1≤a
 ·by_cases h2:a≤s.1
  ·have hE:numE s.1 a=0:=by unfold numE;rw[if_pos ⟨h1,h2⟩]
   rw[hE,panE_yes]
   clear hE
   go_enter func142,ntmps142
   go_wp2_with fail
   refine(must_yes 5 w).mono ?_
   rintro e w' ⟨rfl,rfl⟩
   go_wp2
   go_end0
   exact⟨rfl,rfl⟩
  ·have hE:numE s.1 a=5:=by unfold numE;rw[if_neg (by omega)]
   rw[hE,panE_no (by decide)]
   have h4:decide (a≤s.1)=false:=decide_eq_false (by omega)
   clear hE h2
   go_enter func142,ntmps142
   go_wp2_with fail
   refine(HMust 5 w).mono ?_
   rintro e w' ⟨rfl,rfl⟩
   go_wp2
   exact⟨rfl,rfl,rfl⟩
 ·have hE:numE s.1 a=5:=by unfold numE;rw[if_neg (by omega)]
  rw[hE,panE_no (by decide)]
  clear hE
  go_enter func142,ntmps142
  go_wp2_with fail
  refine(HMust 5 w).mono ?_
  rintro e w' ⟨rfl,rfl⟩
  go_wp2
  exact⟨rfl,rfl,rfl⟩
def numsE(g:Int):List Int→Int
 |[]=>0
 |a::l=>if numE g a=0 then numsE g l else 5
theorem numsE_drop{g:Int}{l:List Int}{j:Nat}(hj:j<l.length):numsE g (l.drop j)=if numE g l[j]=0 then numsE g (l.drop (j+1))else 5:=by
 rw[List.drop_eq_getElem_cons hj,numsE]
theorem own_cell{B n c g:Nat}{w:World}{L:List Int}(h:w.ownsRow B 3 1 (.slice (some ⟨g,0,none⟩) n c) n (i64s L)){j:Nat}(hj:j<L.length):w.cell? ⟨g,j,none⟩=some (.int .i64 L[j]):=by
 have:=h.cellAt j (by rw[← h.1];simp[i64s];omega)
 rw[this]
 unfold i64s
 rw[List.getElem?_map,List.getElem?_eq_getElem hj]
 rfl
theorem checkNames_nil(w:World):Calls prog 104 #[.slice none 0 0] w fun e w'=>e=.returned (.tuple #[])∧w=w':=by
 go_enter func104,ntmps104
 go_wp2
 go_loop [11] (fun i=>i=.int .i64 0) (fun _=>0)
 case atStart=>rfl
 case round=>
  obtain rfl:=hrel
  go_wp2
  go_loop [22] (fun i=>i=.int .i64 0) (fun _=>0)
  case atStart=>rfl
  case round=>
   obtain rfl:=hrel
   go_wp2
   go_loop [8] (fun i=>i=.int .i64 1) (fun _=>0)
   case atStart=>rfl
   case round=>
    obtain rfl:=hrel
    go_wp2
    go_end0
    exact⟨rfl,rfl⟩
end Go.Proofs.YtfnndcbjklppeaaGreatDoor
