import Derived.Test.YtfnndcbjklppeaaGreatDoorUZ2
import Derived.Test.YtfnndcbjklppeaaGreatDoorVA2
import Derived.StillTailTactics
set_option maxHeartbeats 4000000
set_option linter.unusedVariables false
set_option maxRecDepth 100000
open Go.Proofs.Tryz
namespace Go.Proofs.YtfnndcbjklppeaaGreatDoor.Mk
open Go.RowKit
variable {w w' : World} {mb : Nat} {g : Int} {s s' : MS}
theorem ft_cells{w:World}{k:Nat}{f:FT}(h:w.heap[k]? =some (ftO f)):w.cell? ⟨k,0,none⟩=some (.int .i64 f.least)∧w.cell? ⟨k,1,none⟩=some (.int .i64 f.most)∧w.cell? ⟨k,2,none⟩=some (.bool f.plain):=by
 refine⟨?_,?_,?_⟩<;>simp[World.cell?,h]
theorem behind_any(h:MB w mb g s)(n:NV)(F:FT)(f:MS→MS)(hu:Up f)(hm:F.most≤1000000∧ -1≤F.most)(hF:∀W,Step mb w W→Calls prog 64 #[nvV n] W fun e w'=>e=.returned (ftV F)∧Below W.heap.size W w')(hf:DoesF mb g w 42 #[.pointer (some ⟨mb,0,none⟩),nvV n] f)(hs:(behindM F.least F.most f s).fits):Calls prog 75 #[.pointer (some ⟨mb,0,none⟩),nvV n] w fun e w'=>MkE mb g (behindM F.least F.most f s) w e w':=by
 have HS0:=hide ((behind_up _ _ hu s).fits hs)
 have HF:=hide hf
 have hlt:=h.lt
 have HF1:Hid (f ((((((s.newC.newL.newL.newL.newL.add ⟨7,[],(s.cnt:Int),0,0,0,false,false⟩).add ⟨9,[],(s.cnt:Int),0,0,F.least,false,false⟩).stand s.lab.length).add ⟨13,[],(s.cnt:Int),0,0,0,false,false⟩).add ⟨3,[],((s.lab.length+1:Nat):Int),((s.lab.length+2:Nat):Int),0,0,false,false⟩).stand (s.lab.length+1))).fits:=((((((le_add _ _).add _).stand _).add _).add _).stand _).fits hs
 have HU1:Hid (((((((s.newC.newL.newL.newL.newL.add ⟨7,[],(s.cnt:Int),0,0,0,false,false⟩).add ⟨9,[],(s.cnt:Int),0,0,F.least,false,false⟩).stand s.lab.length).add ⟨13,[],(s.cnt:Int),0,0,0,false,false⟩).add ⟨3,[],((s.lab.length+1:Nat):Int),((s.lab.length+2:Nat):Int),0,0,false,false⟩).stand (s.lab.length+1)).le (f ((((((s.newC.newL.newL.newL.newL.add ⟨7,[],(s.cnt:Int),0,0,0,false,false⟩).add ⟨9,[],(s.cnt:Int),0,0,F.least,false,false⟩).stand s.lab.length).add ⟨13,[],(s.cnt:Int),0,0,0,false,false⟩).add ⟨3,[],((s.lab.length+1:Nat):Int),((s.lab.length+2:Nat):Int),0,0,false,false⟩).stand (s.lab.length+1)))):=hu _
 obtain⟨c,hc⟩:=named s.cnt
 have HN0:=hide hc
 clear hc
 obtain⟨l,hl⟩:=named s.lab.length
 have HN1:=hide hl
 clear hl
 obtain⟨l1,hl1⟩:=named (l+1)
 have HN2:=hide hl1
 clear hl1
 obtain⟨l2,hl2⟩:=named (l+2)
 have HN3:=hide hl2
 clear hl2
 obtain⟨l3,hl3⟩:=named (l+3)
 have HN4:=hide hl3
 clear hl3
 rw[← HN1.out, ←HN2.out, ←HN3.out, ←HN0.out]at HF1 HU1
 obtain⟨W0,hW0⟩:=named (w.alloc (nvO n))
 have hb0:Below w.heap.size w W0:=by rw[hW0];exact allocB _ _
 have hx0:W0.heap[w.heap.size]? =some (nvO n):=by rw[hW0];exact at_new _ _
 obtain⟨fl,hfl⟩:=named F.least
 obtain⟨fm,hfm⟩:=named F.most
 have HFL:=hide hfl
 have HFM:=hide hfm
 rw[← HFL.out]at HF1 HU1
 have h0:=h.keep hb0
 have HT0:=hide (Step.of_below hb0 hlt)
 have HX0:=hide hx0
 have HCf:=hide (hF W0 HT0.out)
 have wm:IntKind.i64.wrap (fm+1)=fm+1:=by rw[IntKind.wrap_i64];rw[hfm];omega
 rw[show ftV F=.agg #[.int .i64 fl,.int .i64 fm,.bool F.plain]from by rw[hfl,hfm]]at HCf
 obtain⟨nb,hnb⟩:=named w.heap.size
 have hnl:mb<nb:=by omega
 rw[← hnb]at HX0
 obtain⟨d0,d1,d2,d3,d4,d5,d6,d7⟩:=nv_cells hx0
 simp only[Nat.zero_add]at d0 d1 d2 d3 d4 d5 d6 d7
 simp only[nvO]at hW0
 have HFo:Hid (∀W:World,∀k,W.heap[k]? =some (ftO F)→W.cell? ⟨k,0,none⟩=some (.int .i64 fl)∧W.cell? ⟨k,1,none⟩=some (.int .i64 fm)):=fun W k hk=>by rw[hfl,hfm];exact⟨(ft_cells hk).1,(ft_cells hk).2.1⟩
 have HFO:Hid (ftO F=.cells #[.int .i64 fl,.int .i64 fm,.bool F.plain] 127):=by show _=_;rw[hfl,hfm]
 rw[← hnb]at d0 d1 d2 d3 d4 d5 d6 d7
 clear hf hs hu h hF hx0 hfl hfm hm hb0
 go_enter func75,ntmps75
 go_upto_region 1 with fail
 rw[← hW0, ←hnb]
 clear hW0 hnb
 go_wp2_with fail
 refine HCf.out.mono ?_
 rintro e W1 ⟨rfl,hb1⟩
 have h1:=h0.keep hb1
 have hs1:=Step.of_below hb1 h0.lt
 have HTa:=hide (HT0.out.trans hs1)
 have HXa:=hide (hs1.blk hnl HX0.out (by decide) (by decide))
 have HC1:=hide (newC_at h1 c (by have e0:=HN0.out;have e1:=HN1.out;have e2:=HN2.out;have e3:=HN3.out;have e4:=HN4.out;have:=HS0.out.1;have:=HS0.out.2.1;have:=HS0.out.2.2;(try simp only[z1,z2,z3,z4,z5,z6,z7,z8,z9,za,zb,zc]);omega) (by have e0:=HN0.out;have e1:=HN1.out;have e2:=HN2.out;have e3:=HN3.out;have e4:=HN4.out;have:=HS0.out.1;have:=HS0.out.2.1;have:=HS0.out.2.2;(try simp only[z1,z2,z3,z4,z5,z6,z7,z8,z9,za,zb,zc]);omega))
 clear h0 hb1 h1 hs1 HCf HT0 HX0 d0 d1 d2 d3 d4 d5 d6 d7
 go_wp2_with fail
 refine HC1.out.mono ?_
 rintro e w2 ⟨rfl,h2,st2⟩
 have HTb:=hide (HTa.out.trans st2)
 have HXb:=hide (st2.blk hnl HXa.out (by decide) (by decide))
 obtain⟨W3,hW3⟩:=named (w2.alloc (ftO F))
 have hb3:Below w2.heap.size w2 W3:=by rw[hW3];exact allocB _ _
 have hy3:W3.heap[w2.heap.size]? =some (ftO F):=by rw[hW3];exact at_new _ _
 have hs3:=Step.of_below hb3 h2.lt
 have h3:=h2.keep hb3
 have HT3:=hide (HTb.out.trans hs3)
 have HX3:=hide (hs3.blk hnl HXb.out (by decide) (by decide))
 obtain⟨fb,hfb⟩:=named w2.heap.size
 rw[← hfb]at hy3
 have HY3:=hide hy3
 have hfl:mb<fb:=by have:=h2.lt;omega
 rw[HFO.out]at hW3
 clear HC1 HTa HXa HTb HXb h2 st2 hb3 hy3 hs3
 go_upto_region 2 with fail
 rw[← hW3, ←hfb]
 clear hW3 hfb
 have st3:True:=trivial
 have HC4:=hide (newL_at h3 l (by have e0:=HN0.out;have e1:=HN1.out;have e2:=HN2.out;have e3:=HN3.out;have e4:=HN4.out;have:=HS0.out.1;have:=HS0.out.2.1;have:=HS0.out.2.2;(try simp only[z5]);omega) (by have e0:=HN0.out;have e1:=HN1.out;have e2:=HN2.out;have e3:=HN3.out;have e4:=HN4.out;have:=HS0.out.1;have:=HS0.out.2.1;have:=HS0.out.2.2;(try simp only[z1,z2,z3,z4,z5,z6,z7,z8,z9,za,zb,zc]);omega))
 clear h3 st3
 go_wp2_with fail
 refine HC4.out.mono ?_
 rintro e w4 ⟨rfl,h4,st4⟩
 have HT4:=hide (HT3.out.trans st4)
 clear HC4 HT3
 have HX4:=hide (st4.blk hnl HX3.out (by decide) (by decide))
 clear HX3
 have HY4:=hide (st4.blk hfl HY3.out (by decide) (by decide))
 clear HY3
 have HC5:=hide (newL_at h4 l1 (by have e0:=HN0.out;have e1:=HN1.out;have e2:=HN2.out;have e3:=HN3.out;have e4:=HN4.out;have:=HS0.out.1;have:=HS0.out.2.1;have:=HS0.out.2.2;(try simp only[z5,z8]);omega) (by have e0:=HN0.out;have e1:=HN1.out;have e2:=HN2.out;have e3:=HN3.out;have e4:=HN4.out;have:=HS0.out.1;have:=HS0.out.2.1;have:=HS0.out.2.2;(try simp only[z1,z2,z3,z4,z5,z6,z7,z8,z9,za,zb,zc]);omega))
 clear h4 st4
 go_wp2_with fail
 refine HC5.out.mono ?_
 rintro e w5 ⟨rfl,h5,st5⟩
 have HT5:=hide (HT4.out.trans st5)
 clear HC5 HT4
 have HX5:=hide (st5.blk hnl HX4.out (by decide) (by decide))
 clear HX4
 have HY5:=hide (st5.blk hfl HY4.out (by decide) (by decide))
 clear HY4
 have HC6:=hide (newL_at h5 l2 (by have e0:=HN0.out;have e1:=HN1.out;have e2:=HN2.out;have e3:=HN3.out;have e4:=HN4.out;have:=HS0.out.1;have:=HS0.out.2.1;have:=HS0.out.2.2;(try simp only[z5,z8]);omega) (by have e0:=HN0.out;have e1:=HN1.out;have e2:=HN2.out;have e3:=HN3.out;have e4:=HN4.out;have:=HS0.out.1;have:=HS0.out.2.1;have:=HS0.out.2.2;(try simp only[z1,z2,z3,z4,z5,z6,z7,z8,z9,za,zb,zc]);omega))
 clear h5 st5
 go_wp2_with fail
 refine HC6.out.mono ?_
 rintro e w6 ⟨rfl,h6,st6⟩
 have HT6:=hide (HT5.out.trans st6)
 clear HC6 HT5
 have HX6:=hide (st6.blk hnl HX5.out (by decide) (by decide))
 clear HX5
 have HY6:=hide (st6.blk hfl HY5.out (by decide) (by decide))
 clear HY5
 have HC7:=hide (newL_at h6 l3 (by have e0:=HN0.out;have e1:=HN1.out;have e2:=HN2.out;have e3:=HN3.out;have e4:=HN4.out;have:=HS0.out.1;have:=HS0.out.2.1;have:=HS0.out.2.2;(try simp only[z5,z8]);omega) (by have e0:=HN0.out;have e1:=HN1.out;have e2:=HN2.out;have e3:=HN3.out;have e4:=HN4.out;have:=HS0.out.1;have:=HS0.out.2.1;have:=HS0.out.2.2;(try simp only[z1,z2,z3,z4,z5,z6,z7,z8,z9,za,zb,zc]);omega))
 clear h6 st6
 go_wp2_with fail
 refine HC7.out.mono ?_
 rintro e w7 ⟨rfl,h7,st7⟩
 have HT7:=hide (HT6.out.trans st7)
 clear HC7 HT6
 have HX7:=hide (st7.blk hnl HX6.out (by decide) (by decide))
 clear HX6
 have HY7:=hide (st7.blk hfl HY6.out (by decide) (by decide))
 clear HY6
 have HC8:=hide (add0 h7 7 c 0 0 0 false false (by have e0:=HN0.out;have e1:=HN1.out;have e2:=HN2.out;have e3:=HN3.out;have e4:=HN4.out;have:=HS0.out.1;have:=HS0.out.2.1;have:=HS0.out.2.2;(try simp only[z4,z7]);omega))
 clear h7 st7
 go_wp2_with fail
 refine HC8.out.mono ?_
 rintro e w8 ⟨rfl,h8,st8⟩
 have HT8:=hide (HT7.out.trans st8)
 clear HC8 HT7
 have HX8:=hide (st8.blk hnl HX7.out (by decide) (by decide))
 clear HX7
 have HY8:=hide (st8.blk hfl HY7.out (by decide) (by decide))
 clear HY7
 obtain⟨f0,f1⟩:=HFo.out _ _ HY8.out
 have HC9:=hide (add0 h8 9 c 0 0 fl false false (by have e0:=HN0.out;have e1:=HN1.out;have e2:=HN2.out;have e3:=HN3.out;have e4:=HN4.out;have:=HS0.out.1;have:=HS0.out.2.1;have:=HS0.out.2.2;(try simp only[z1,z4,z7]);omega))
 clear h8 st8
 go_wp2_with fail
 refine HC9.out.mono ?_
 rintro e w9 ⟨rfl,h9,st9⟩
 have HT9:=hide (HT8.out.trans st9)
 clear HC9 HT8
 have HX9:=hide (st9.blk hnl HX8.out (by decide) (by decide))
 clear HX8
 have HY9:=hide (st9.blk hfl HY8.out (by decide) (by decide))
 clear HY8
 clear f0 f1
 have HC10:=hide (stand_any h9 l (by have e0:=HN0.out;have e1:=HN1.out;have e2:=HN2.out;have e3:=HN3.out;have e4:=HN4.out;have:=HS0.out.1;have:=HS0.out.2.1;have:=HS0.out.2.2;(try simp only[z2,z5,z8]);omega))
 clear h9 st9
 go_wp2_with fail
 refine HC10.out.mono ?_
 rintro e w10 ⟨rfl,h10,st10⟩
 have HT10:=hide (HT9.out.trans st10)
 clear HC10 HT9
 have HX10:=hide (st10.blk hnl HX9.out (by decide) (by decide))
 clear HX9
 have HY10:=hide (st10.blk hfl HY9.out (by decide) (by decide))
 clear HY9
 have HC11:=hide (add0 h10 13 c 0 0 0 false false (by have e0:=HN0.out;have e1:=HN1.out;have e2:=HN2.out;have e3:=HN3.out;have e4:=HN4.out;have:=HS0.out.1;have:=HS0.out.2.1;have:=HS0.out.2.2;(try simp only[z1,z4,z7,za]);omega))
 clear h10 st10
 go_wp2_with fail
 refine HC11.out.mono ?_
 rintro e w11 ⟨rfl,h11,st11⟩
 have HT11:=hide (HT10.out.trans st11)
 clear HC11 HT10
 have HX11:=hide (st11.blk hnl HX10.out (by decide) (by decide))
 clear HX10
 have HY11:=hide (st11.blk hfl HY10.out (by decide) (by decide))
 clear HY10
 have HC12:=hide (add0 h11 3 l1 l2 0 0 false false (by have e0:=HN0.out;have e1:=HN1.out;have e2:=HN2.out;have e3:=HN3.out;have e4:=HN4.out;have:=HS0.out.1;have:=HS0.out.2.1;have:=HS0.out.2.2;(try simp only[z1,z4,z7,za]);omega))
 clear h11 st11
 go_wp2_with fail
 refine HC12.out.mono ?_
 rintro e w12 ⟨rfl,h12,st12⟩
 have HT12:=hide (HT11.out.trans st12)
 clear HC12 HT11
 have HX12:=hide (st12.blk hnl HX11.out (by decide) (by decide))
 clear HX11
 have HY12:=hide (st12.blk hfl HY11.out (by decide) (by decide))
 clear HY11
 have HC13:=hide (stand_any h12 l1 (by have e0:=HN0.out;have e1:=HN1.out;have e2:=HN2.out;have e3:=HN3.out;have e4:=HN4.out;have:=HS0.out.1;have:=HS0.out.2.1;have:=HS0.out.2.2;(try simp only[z2,z5,z8,zb]);omega))
 clear h12 st12
 go_wp2_with fail
 refine HC13.out.mono ?_
 rintro e w13 ⟨rfl,h13,st13⟩
 have HT13:=hide (HT12.out.trans st13)
 clear HC13 HT12
 have HX13:=hide (st13.blk hnl HX12.out (by decide) (by decide))
 clear HX12
 have HY13:=hide (st13.blk hfl HY12.out (by decide) (by decide))
 clear HY12
 obtain⟨d0,d1,d2,d3,d4,d5,d6,d7⟩:=nv_cells HX13.out
 simp only[Nat.zero_add]at d0 d1 d2 d3 d4 d5 d6 d7
 have HC14:=hide (HF.out w13 _ HT13.out h13 HF1.out)
 clear h13 st13
 go_wp2_with fail
 refine HC14.out.mono ?_
 rintro e w14 ⟨rfl,h14,st14⟩
 have HT14:=hide (HT13.out.trans st14)
 clear HC14 HT13
 have HX14:=hide (st14.blk hnl HX13.out (by decide) (by decide))
 clear HX13
 have HY14:=hide (st14.blk hfl HY13.out (by decide) (by decide))
 clear HY13
 clear HF d0 d1 d2 d3 d4 d5 d6 d7
 have HC15:=hide (add0 h14 12 c l3 0 0 false false (by have e0:=HN0.out;have e1:=HN1.out;have e2:=HN2.out;have e3:=HN3.out;have e4:=HN4.out;have:=HS0.out.1;have:=HS0.out.2.1;have:=HS0.out.2.2;have:=HF1.out.1;have:=HF1.out.2.1;have:=HF1.out.2.2;have qHU1:=HU1.out.lab;have rHU1:=HU1.out.cnt;(try simp only[z2,z5,z8,zb]at qHU1);(try simp only[z3,z6,z9,zc]at rHU1);(try simp only[z1,z2,z3,z4,z5,z6,z7,z8,z9,za,zb,zc]);omega))
 clear h14 st14
 go_wp2_with fail
 refine HC15.out.mono ?_
 rintro e w15 ⟨rfl,h15,st15⟩
 have HT15:=hide (HT14.out.trans st15)
 clear HC15 HT14
 have HX15:=hide (st15.blk hnl HX14.out (by decide) (by decide))
 clear HX14
 have HY15:=hide (st15.blk hfl HY14.out (by decide) (by decide))
 clear HY14
 have HC16:=hide (add0 h15 14 0 0 0 0 false false (by have e0:=HN0.out;have e1:=HN1.out;have e2:=HN2.out;have e3:=HN3.out;have e4:=HN4.out;have:=HS0.out.1;have:=HS0.out.2.1;have:=HS0.out.2.2;have:=HF1.out.1;have:=HF1.out.2.1;have:=HF1.out.2.2;have qHU1:=HU1.out.lab;have rHU1:=HU1.out.cnt;(try simp only[z2,z5,z8,zb]at qHU1);(try simp only[z3,z6,z9,zc]at rHU1);(try simp only[z1]);omega))
 clear h15 st15
 go_wp2_with fail
 refine HC16.out.mono ?_
 rintro e w16 ⟨rfl,h16,st16⟩
 have HT16:=hide (HT15.out.trans st16)
 clear HC16 HT15
 have HX16:=hide (st16.blk hnl HX15.out (by decide) (by decide))
 clear HX15
 have HY16:=hide (st16.blk hfl HY15.out (by decide) (by decide))
 clear HY15
 have HC17:=hide (stand_any h16 l2 (by have e0:=HN0.out;have e1:=HN1.out;have e2:=HN2.out;have e3:=HN3.out;have e4:=HN4.out;have:=HS0.out.1;have:=HS0.out.2.1;have:=HS0.out.2.2;have:=HF1.out.1;have:=HF1.out.2.1;have:=HF1.out.2.2;have qHU1:=HU1.out.lab;have rHU1:=HU1.out.cnt;(try simp only[z2,z5,z8,zb]at qHU1);(try simp only[z3,z6,z9,zc]at rHU1);(try simp only[z2]);omega))
 clear h16 st16
 go_wp2_with fail
 refine HC17.out.mono ?_
 rintro e w17 ⟨rfl,h17,st17⟩
 have HT17:=hide (HT16.out.trans st17)
 clear HC17 HT16
 have HX17:=hide (st17.blk hnl HX16.out (by decide) (by decide))
 clear HX16
 have HY17:=hide (st17.blk hfl HY16.out (by decide) (by decide))
 clear HY16
 obtain⟨f0,f1⟩:=HFo.out _ _ HY17.out
 have HC18:=hide (add0 h17 10 c l 0 (fm+1) false false (by have e0:=HN0.out;have e1:=HN1.out;have e2:=HN2.out;have e3:=HN3.out;have e4:=HN4.out;have:=HS0.out.1;have:=HS0.out.2.1;have:=HS0.out.2.2;have:=HF1.out.1;have:=HF1.out.2.1;have:=HF1.out.2.2;have qHU1:=HU1.out.lab;have rHU1:=HU1.out.cnt;(try simp only[z2,z5,z8,zb]at qHU1);(try simp only[z3,z6,z9,zc]at rHU1);(try simp only[z1,za]);omega))
 clear h17 st17
 go_wp2_with fail
 refine HC18.out.mono ?_
 rintro e w18 ⟨rfl,h18,st18⟩
 have HT18:=hide (HT17.out.trans st18)
 clear HC18 HT17
 have HX18:=hide (st18.blk hnl HX17.out (by decide) (by decide))
 clear HX17
 have HY18:=hide (st18.blk hfl HY17.out (by decide) (by decide))
 clear HY17
 clear f0 f1
 have HC19:=hide (add0 h18 14 0 0 0 0 false false (by have e0:=HN0.out;have e1:=HN1.out;have e2:=HN2.out;have e3:=HN3.out;have e4:=HN4.out;have:=HS0.out.1;have:=HS0.out.2.1;have:=HS0.out.2.2;have:=HF1.out.1;have:=HF1.out.2.1;have:=HF1.out.2.2;have qHU1:=HU1.out.lab;have rHU1:=HU1.out.cnt;(try simp only[z2,z5,z8,zb]at qHU1);(try simp only[z3,z6,z9,zc]at rHU1);(try simp only[z1,za]);omega))
 clear h18 st18
 go_wp2_with fail
 refine HC19.out.mono ?_
 rintro e w19 ⟨rfl,h19,st19⟩
 have HT19:=hide (HT18.out.trans st19)
 clear HC19 HT18
 have HX19:=hide (st19.blk hnl HX18.out (by decide) (by decide))
 clear HX18
 have HY19:=hide (st19.blk hfl HY18.out (by decide) (by decide))
 clear HY18
 have HC20:=hide (stand_any h19 l3 (by have e0:=HN0.out;have e1:=HN1.out;have e2:=HN2.out;have e3:=HN3.out;have e4:=HN4.out;have:=HS0.out.1;have:=HS0.out.2.1;have:=HS0.out.2.2;have:=HF1.out.1;have:=HF1.out.2.1;have:=HF1.out.2.2;have qHU1:=HU1.out.lab;have rHU1:=HU1.out.cnt;(try simp only[z2,z5,z8,zb]at qHU1);(try simp only[z3,z6,z9,zc]at rHU1);(try simp only[z2,zb]);omega))
 clear h19 st19
 go_wp2_with fail
 refine HC20.out.mono ?_
 rintro e w20 ⟨rfl,h20,st20⟩
 have HT20:=hide (HT19.out.trans st20)
 clear HC20 HT19
 have HX20:=hide (st20.blk hnl HX19.out (by decide) (by decide))
 clear HX19
 have HY20:=hide (st20.blk hfl HY19.out (by decide) (by decide))
 clear HY19
 have HH:=hide h20
 clear h20 st20
 go_wp2
 go_end0
 have e4:=HN4.out
 have e3:=HN3.out
 have e2:=HN2.out
 have e1:=HN1.out
 have e0:=HN0.out
 have e5:=HFL.out
 have e6:=HFM.out
 subst e5 e6
 subst e4 e3 e2 e1 e0
 exact⟨rfl,HH.out,HT20.out⟩
variable {w w' : World} {mb : Nat} {g : Int} {s s' : MS}
theorem group_any(h:MB w mb g s)(n v:NV)(x:Addr)(hka:n.ka=some x)(hkl:n.kl=1)(hK:∀W,Step mb w W→NCells W x v)(f:MS→MS)(hu:Up f)(hf:DoesF mb g w 42 #[.pointer (some ⟨mb,0,none⟩),nvV v] f)(hs:((f (s.newC.add { dn:=7,to:=s.cnt })).add { dn:=4,to:=n.num,other:=s.cnt }).fits):Calls prog 67 #[.pointer (some ⟨mb,0,none⟩),nvV n] w fun e w'=>MkE mb g ((f (s.newC.add { dn:=7,to:=s.cnt })).add { dn:=4,to:=n.num,other:=s.cnt }) w e w':=by
 have HF1:Hid (f (s.newC.add ⟨7,[],(s.cnt:Int),0,0,0,false,false⟩)).fits:=(le_add _ _).fits hs
 have HS0:Hid s.fits:=((((le_newC s).add _).trans (hu _)).add _).fits hs
 have HF:=hide hf
 have HK:=hide hK
 have hlt:=h.lt
 obtain⟨c,hc⟩:=named s.cnt
 have HN0:=hide hc
 clear hc
 rw[← HN0.out]at HF1
 obtain⟨W0,hW0⟩:=named (w.alloc (nvO n))
 have hb0:Below w.heap.size w W0:=by rw[hW0];exact allocB _ _
 have hx0:W0.heap[w.heap.size]? =some (nvO n):=by rw[hW0];exact at_new _ _
 have h0:=h.keep hb0
 have HT0:=hide (Step.of_below hb0 hlt)
 obtain⟨nb,hnb⟩:=named w.heap.size
 have hnl:mb<nb:=by omega
 rw[← hnb]at hx0
 have HX0:=hide hx0
 simp only[nvO]at hW0
 have HKA:=hide hka
 have HKL:=hide hkl
 clear hf hs hu h hK hx0 hb0 hka hkl
 go_enter func67,ntmps67
 go_upto_region 1 with fail
 rw[← hW0, ←hnb]
 clear hW0 hnb
 have HC1:=hide (newC_at h0 c (by have e0:=HN0.out;have:=HS0.out.1;have:=HS0.out.2.1;have:=HS0.out.2.2;(try simp only[z1,z2,z3,z4,z5,z6,z7,z8,z9,za,zb,zc]);omega) (by have e0:=HN0.out;have:=HS0.out.1;have:=HS0.out.2.1;have:=HS0.out.2.2;(try simp only[z1,z2,z3,z4,z5,z6,z7,z8,z9,za,zb,zc]);omega))
 clear h0
 go_wp2_with fail
 refine HC1.out.mono ?_
 rintro e w1 ⟨rfl,h1,st1⟩
 have HT1:=hide (HT0.out.trans st1)
 clear HC1 HT0
 have HX1:=hide (st1.blk hnl HX0.out (by decide) (by decide))
 clear HX0
 have HC2:=hide (add0 h1 7 c 0 0 0 false false (by have e0:=HN0.out;have:=HS0.out.1;have:=HS0.out.2.1;have:=HS0.out.2.2;(try simp only[z4]);omega))
 clear h1 st1
 go_wp2_with fail
 refine HC2.out.mono ?_
 rintro e w2 ⟨rfl,h2,st2⟩
 have HT2:=hide (HT1.out.trans st2)
 clear HC2 HT1
 have HX2:=hide (st2.blk hnl HX1.out (by decide) (by decide))
 clear HX1
 obtain⟨d0,d1,d2,d3,d4,d5,d6,d7⟩:=nv_cells HX2.out
 simp only[Nat.zero_add]at d0 d1 d2 d3 d4 d5 d6 d7
 rw[HKA.out,HKL.out]at d2
 obtain⟨k0,k1,k2,k3,k4,k5,k6,k7⟩:=HK.out _ HT2.out
 have HC3:=hide (HF.out w2 _ HT2.out h2 HF1.out)
 clear h2 st2
 go_wp2_with fail
 refine HC3.out.mono ?_
 rintro e w3 ⟨rfl,h3,st3⟩
 have HT3:=hide (HT2.out.trans st3)
 clear HC3 HT2
 have HX3:=hide (st3.blk hnl HX2.out (by decide) (by decide))
 clear HX2
 clear d0 d1 d2 d3 d4 d5 d6 d7
 clear k0 k1 k2 k3 k4 k5 k6 k7
 clear HF
 obtain⟨d0,d1,d2,d3,d4,d5,d6,d7⟩:=nv_cells HX3.out
 simp only[Nat.zero_add]at d0 d1 d2 d3 d4 d5 d6 d7
 rw[HKA.out,HKL.out]at d2
 have HC4:=hide (add0 h3 4 n.num c 0 0 false false (by have e0:=HN0.out;have:=HS0.out.1;have:=HS0.out.2.1;have:=HS0.out.2.2;have:=HF1.out.1;have:=HF1.out.2.1;have:=HF1.out.2.2;(try simp only[z1,z2,z3,z4,z5,z6,z7,z8,z9,za,zb,zc]);omega))
 clear h3 st3
 go_wp2_with fail
 refine HC4.out.mono ?_
 rintro e w4 ⟨rfl,h4,st4⟩
 have HT4:=hide (HT3.out.trans st4)
 clear HC4 HT3
 have HX4:=hide (st4.blk hnl HX3.out (by decide) (by decide))
 clear HX3
 clear d0 d1 d2 d3 d4 d5 d6 d7
 have HH:=hide h4
 clear h4 st4
 go_wp2
 go_end0
 have e0:=HN0.out
 subst e0
 exact⟨rfl,HH.out,HT4.out⟩
theorem clo1(n v:NV)(x:Addr)(pb nb:Nat)(hpl:mb<pb)(hnl:mb<nb)(hp:w.heap[pb]? =some (.cells #[.pointer (some ⟨mb,0,none⟩)] 103))(hn:w.heap[nb]? =some (nvO n))(hka:n.ka=some x)(hkl:n.kl=1)(hK:∀W,Step mb w W→NCells W x v)(f:MS→MS)(hf:DoesF mb g w 42 #[.pointer (some ⟨mb,0,none⟩),nvV v] f):DoesF mb g w 70 #[.pointer (some ⟨pb,0,none⟩),.pointer (some ⟨nb,0,none⟩)] f:=by
 intro W s hst hM hfit
 have hlt:=hM.lt
 have p0:W.cell? ⟨pb,0,none⟩=some (.pointer (some ⟨mb,0,none⟩)):=by simp[World.cell?,hst.blk hpl hp (by decide) (by decide)]
 obtain⟨d0,d1,d2,d3,d4,d5,d6,d7⟩:=nv_cells (hst.blk hnl hn (by decide) (by decide))
 simp only[Nat.zero_add]at d0 d1 d2 d3 d4 d5 d6 d7
 rw[hka,hkl]at d2
 obtain⟨k0,k1,k2,k3,k4,k5,k6,k7⟩:=hK W hst
 have HC:=hide (hf W.drew s (hst.trans (Step.of_below (drew1 W) hlt)) (hM.keep (drew1 W)) hfit)
 have HD:=hide (Step.of_below (drew1 W) hlt)
 clear hst hM hp hn hka hkl hK hf hfit
 go_enter func70,ntmps70
 go_still_tail 5,(by kernel_rfl)
 go_wp2_with fail
 refine HC.out.mono ?_
 rintro e w1 ⟨rfl,h1,st1⟩
 have HH:=hide h1
 have HT:=hide (HD.out.trans st1)
 clear h1 st1 HC
 go_wp2
 go_end0
 exact⟨rfl,HH.out,HT.out⟩
theorem clo2(n v:NV)(x:Addr)(pb nb:Nat)(hpl:mb<pb)(hnl:mb<nb)(hp:w.heap[pb]? =some (.cells #[.pointer (some ⟨mb,0,none⟩)] 103))(hn:w.heap[nb]? =some (nvO n))(hka:n.ka=some x)(hkl:n.kl=1)(hK:∀W,Step mb w W→NCells W x v)(f:MS→MS)(hf:DoesF mb g w 42 #[.pointer (some ⟨mb,0,none⟩),nvV v] f):DoesF mb g w 71 #[.pointer (some ⟨pb,0,none⟩),.pointer (some ⟨nb,0,none⟩)] f:=by
 intro W s hst hM hfit
 have hlt:=hM.lt
 have p0:W.cell? ⟨pb,0,none⟩=some (.pointer (some ⟨mb,0,none⟩)):=by simp[World.cell?,hst.blk hpl hp (by decide) (by decide)]
 obtain⟨d0,d1,d2,d3,d4,d5,d6,d7⟩:=nv_cells (hst.blk hnl hn (by decide) (by decide))
 simp only[Nat.zero_add]at d0 d1 d2 d3 d4 d5 d6 d7
 rw[hka,hkl]at d2
 obtain⟨k0,k1,k2,k3,k4,k5,k6,k7⟩:=hK W hst
 have HC:=hide (hf W.drew s (hst.trans (Step.of_below (drew1 W) hlt)) (hM.keep (drew1 W)) hfit)
 have HD:=hide (Step.of_below (drew1 W) hlt)
 clear hst hM hp hn hka hkl hK hf hfit
 go_enter func71,ntmps71
 go_still_tail 5,(by kernel_rfl)
 go_wp2_with fail
 refine HC.out.mono ?_
 rintro e w1 ⟨rfl,h1,st1⟩
 have HH:=hide h1
 have HT:=hide (HD.out.trans st1)
 clear h1 st1 HC
 go_wp2
 go_end0
 exact⟨rfl,HH.out,HT.out⟩
theorem clo3(n v:NV)(x:Addr)(pb nb:Nat)(hpl:mb<pb)(hnl:mb<nb)(hp:w.heap[pb]? =some (.cells #[.pointer (some ⟨mb,0,none⟩)] 103))(hn:w.heap[nb]? =some (nvO n))(hka:n.ka=some x)(hkl:n.kl=1)(hK:∀W,Step mb w W→NCells W x v)(f:MS→MS)(hf:DoesF mb g w 42 #[.pointer (some ⟨mb,0,none⟩),nvV v] f):DoesF mb g w 73 #[.pointer (some ⟨pb,0,none⟩),.pointer (some ⟨nb,0,none⟩)] f:=by
 intro W s hst hM hfit
 have hlt:=hM.lt
 have p0:W.cell? ⟨pb,0,none⟩=some (.pointer (some ⟨mb,0,none⟩)):=by simp[World.cell?,hst.blk hpl hp (by decide) (by decide)]
 obtain⟨d0,d1,d2,d3,d4,d5,d6,d7⟩:=nv_cells (hst.blk hnl hn (by decide) (by decide))
 simp only[Nat.zero_add]at d0 d1 d2 d3 d4 d5 d6 d7
 rw[hka,hkl]at d2
 obtain⟨k0,k1,k2,k3,k4,k5,k6,k7⟩:=hK W hst
 have HC:=hide (hf W.drew s (hst.trans (Step.of_below (drew1 W) hlt)) (hM.keep (drew1 W)) hfit)
 have HD:=hide (Step.of_below (drew1 W) hlt)
 clear hst hM hp hn hka hkl hK hf hfit
 go_enter func73,ntmps73
 go_still_tail 5,(by kernel_rfl)
 go_wp2_with fail
 refine HC.out.mono ?_
 rintro e w1 ⟨rfl,h1,st1⟩
 have HH:=hide h1
 have HT:=hide (HD.out.trans st1)
 clear h1 st1 HC
 go_wp2
 go_end0
 exact⟨rfl,HH.out,HT.out⟩
theorem clo4(n v:NV)(x:Addr)(pb nb:Nat)(hpl:mb<pb)(hnl:mb<nb)(hp:w.heap[pb]? =some (.cells #[.pointer (some ⟨mb,0,none⟩)] 103))(hn:w.heap[nb]? =some (nvO n))(hka:n.ka=some x)(hkl:n.kl=1)(hK:∀W,Step mb w W→NCells W x v)(f:MS→MS)(hf:DoesF mb g w 75 #[.pointer (some ⟨mb,0,none⟩),nvV v] f):DoesF mb g w 74 #[.pointer (some ⟨pb,0,none⟩),.pointer (some ⟨nb,0,none⟩)] f:=by
 intro W s hst hM hfit
 have hlt:=hM.lt
 have p0:W.cell? ⟨pb,0,none⟩=some (.pointer (some ⟨mb,0,none⟩)):=by simp[World.cell?,hst.blk hpl hp (by decide) (by decide)]
 obtain⟨d0,d1,d2,d3,d4,d5,d6,d7⟩:=nv_cells (hst.blk hnl hn (by decide) (by decide))
 simp only[Nat.zero_add]at d0 d1 d2 d3 d4 d5 d6 d7
 rw[hka,hkl]at d2
 obtain⟨k0,k1,k2,k3,k4,k5,k6,k7⟩:=hK W hst
 have HC:=hide (hf W.drew s (hst.trans (Step.of_below (drew1 W) hlt)) (hM.keep (drew1 W)) hfit)
 have HD:=hide (Step.of_below (drew1 W) hlt)
 clear hst hM hp hn hka hkl hK hf hfit
 go_enter func74,ntmps74
 go_still_tail 5,(by kernel_rfl)
 go_wp2_with fail
 refine HC.out.mono ?_
 rintro e w1 ⟨rfl,h1,st1⟩
 have HH:=hide h1
 have HT:=hide (HD.out.trans st1)
 clear h1 st1 HC
 go_wp2
 go_end0
 exact⟨rfl,HH.out,HT.out⟩
theorem clo5(n v:NV)(x:Addr)(pb nb:Nat)(hpl:mb<pb)(hnl:mb<nb)(hp:w.heap[pb]? =some (.cells #[.pointer (some ⟨mb,0,none⟩)] 103))(hn:w.heap[nb]? =some (nvO n))(hka:n.ka=some x)(hkl:n.kl=1)(hK:∀W,Step mb w W→NCells W x v)(f:MS→MS)(hf:DoesF mb g w 75 #[.pointer (some ⟨mb,0,none⟩),nvV v] f):DoesF mb g w 76 #[.pointer (some ⟨pb,0,none⟩),.pointer (some ⟨nb,0,none⟩)] f:=by
 intro W s hst hM hfit
 have hlt:=hM.lt
 have p0:W.cell? ⟨pb,0,none⟩=some (.pointer (some ⟨mb,0,none⟩)):=by simp[World.cell?,hst.blk hpl hp (by decide) (by decide)]
 obtain⟨d0,d1,d2,d3,d4,d5,d6,d7⟩:=nv_cells (hst.blk hnl hn (by decide) (by decide))
 simp only[Nat.zero_add]at d0 d1 d2 d3 d4 d5 d6 d7
 rw[hka,hkl]at d2
 obtain⟨k0,k1,k2,k3,k4,k5,k6,k7⟩:=hK W hst
 have HC:=hide (hf W.drew s (hst.trans (Step.of_below (drew1 W) hlt)) (hM.keep (drew1 W)) hfit)
 have HD:=hide (Step.of_below (drew1 W) hlt)
 clear hst hM hp hn hka hkl hK hf hfit
 go_enter func76,ntmps76
 go_still_tail 5,(by kernel_rfl)
 go_wp2_with fail
 refine HC.out.mono ?_
 rintro e w1 ⟨rfl,h1,st1⟩
 have HH:=hide h1
 have HT:=hide (HD.out.trans st1)
 clear h1 st1 HC
 go_wp2
 go_end0
 exact⟨rfl,HH.out,HT.out⟩
variable {w w' : World} {mb : Nat} {g : Int} {s s' : MS}
abbrev rnO(mb:Nat)(n:NV)(cb wb:Bool)(dn fl:Nat):Obj:=.cells #[.pointer (some ⟨mb,0,none⟩),.int .i64 n.kind,.slice n.sa n.sl n.sc,.slice n.ka n.kl n.kc,.int .i64 n.num,.int .i64 n.least,.int .i64 n.most,.int .i64 n.way,.bool n.fold,.bool cb,.bool wb,.int .i64 (dn:Int),.int .i64 (fl:Int)] 195
theorem rn_cells{w:World}{rb mb:Nat}{n:NV}{cb wb:Bool}{dn fl:Nat}(h:w.heap[rb]? =some (rnO mb n cb wb dn fl)):w.cell? ⟨rb,0,none⟩=some (.pointer (some ⟨mb,0,none⟩))∧w.cell? ⟨rb,3,none⟩=some (.slice n.ka n.kl n.kc)∧w.cell? ⟨rb,5,none⟩=some (.int .i64 n.least)∧w.cell? ⟨rb,6,none⟩=some (.int .i64 n.most)∧w.cell? ⟨rb,7,none⟩=some (.int .i64 n.way)∧w.cell? ⟨rb,9,none⟩=some (.bool cb)∧w.cell? ⟨rb,10,none⟩=some (.bool wb)∧w.cell? ⟨rb,11,none⟩=some (.int .i64 (dn:Int))∧w.cell? ⟨rb,12,none⟩=some (.int .i64 (fl:Int)):=by
 refine⟨?_,?_,?_,?_,?_,?_,?_,?_,?_⟩<;>simp[World.cell?,h]
theorem choice111(h:MB w mb g s)(rb:Nat)(hrl:mb<rb)(n:NV)(cb:Bool)(dn fl b e:Nat)(hr:w.heap[rb]? =some (rnO mb n cb true dn fl))(q1:0<n.least)(q2:n.way=2)(hfl:fl<s.lab.length)(hs:(choiceM ⟨n.least,n.most,n.way,cb,true,dn,fl⟩ b e s).fits):Calls prog 171 #[.pointer (some ⟨rb,0,none⟩),.int .i64 (b:Int),.int .i64 (e:Int)] w fun en w'=>MkE mb g (choiceM ⟨n.least,n.most,n.way,cb,true,dn,fl⟩ b e s) w en w':=by
 have HS0:=hide ((choice_up _ _ _ s).fits hs)
 have HT0:=hide (Step.refl mb w)
 have HX0:=hide hr
 have HFL:=hide hfl
 have HE:Hid (choiceM ⟨n.least,n.most,n.way,cb,true,dn,fl⟩ b e s=((((s).add ⟨11,[],(dn:Int),(b:Int),0,n.least,false,false⟩).add ⟨3,[],(e:Int),(b:Int),0,0,false,false⟩).stand fl).add ⟨14,[],0,0,0,0,false,false⟩):=by show _=_;unfold choiceM;dsimp only;rw[if_pos q1,if_pos q2,if_pos rfl]
 have b2:(n.way==2)=true:=by simpa using q2
 clear hr hs hfl q2
 go_enter func171,ntmps171
 obtain⟨r0,r3,r5,r6,r7,r9,r10,r11,r12⟩:=rn_cells HX0.out
 have hlt0:=h.lt
 have hd0:=h.keep (drew1 w)
 have HD0:=hide (Step.of_below (drew1 w) hlt0)
 have HC1:=hide (add0 hd0 11 dn b 0 n.least false false (by have:=HS0.out.1;have:=HS0.out.2.1;have:=HS0.out.2.2;(try simp only[z1,z2,z3,z4,z5,z6,z7,z8,z9,za,zb,zc]);omega))
 clear h hd0 hlt0
 go_upto_region 1 with fail
 go_still_tail 15,(by kernel_rfl)
 go_wp2_with fail
 refine HC1.out.mono ?_
 rintro e w1 ⟨rfl,h1,st1⟩
 replace st1:=HD0.out.trans st1
 clear HD0
 have HT1:=hide (HT0.out.trans st1)
 clear HC1 HT0
 have HX1:=hide (st1.blk hrl HX0.out (by decide) (by decide))
 clear HX0
 clear r0 r3 r5 r6 r7 r9 r10 r11 r12
 obtain⟨r0,r3,r5,r6,r7,r9,r10,r11,r12⟩:=rn_cells HX1.out
 have HC2:=hide (add0 h1 3 e b 0 0 false false (by have:=HS0.out.1;have:=HS0.out.2.1;have:=HS0.out.2.2;(try simp only[z1]);omega))
 clear h1 st1
 go_wp2_with fail
 refine HC2.out.mono ?_
 rintro e w2 ⟨rfl,h2,st2⟩
 have HT2:=hide (HT1.out.trans st2)
 clear HC2 HT1
 have HX2:=hide (st2.blk hrl HX1.out (by decide) (by decide))
 clear HX1
 clear r0 r3 r5 r6 r7 r9 r10 r11 r12
 obtain⟨r0,r3,r5,r6,r7,r9,r10,r11,r12⟩:=rn_cells HX2.out
 have hlt2:=h2.lt
 have hd2:=h2.keep (drew1 w2)
 have HD2:=hide (Step.of_below (drew1 w2) hlt2)
 have HC3:=hide (stand_any hd2 fl (by have qx:=HFL.out;have:=HS0.out.1;have:=HS0.out.2.1;have:=HS0.out.2.2;(try simp only[z2]);omega))
 clear h2 st2 hd2 hlt2
 go_upto_region 6 with fail
 go_still_tail 8,(by kernel_rfl)
 go_wp2_with fail
 refine HC3.out.mono ?_
 rintro e w3 ⟨rfl,h3,st3⟩
 replace st3:=HD2.out.trans st3
 clear HD2
 have HT3:=hide (HT2.out.trans st3)
 clear HC3 HT2
 have HX3:=hide (st3.blk hrl HX2.out (by decide) (by decide))
 clear HX2
 clear r0 r3 r5 r6 r7 r9 r10 r11 r12
 obtain⟨r0,r3,r5,r6,r7,r9,r10,r11,r12⟩:=rn_cells HX3.out
 have HC4:=hide (add0 h3 14 0 0 0 0 false false (by have qx:=HFL.out;have:=HS0.out.1;have:=HS0.out.2.1;have:=HS0.out.2.2;(try simp only[z1,za]);omega))
 clear h3 st3
 go_wp2_with fail
 refine HC4.out.mono ?_
 rintro e w4 ⟨rfl,h4,st4⟩
 have HT4:=hide (HT3.out.trans st4)
 clear HC4 HT3
 have HX4:=hide (st4.blk hrl HX3.out (by decide) (by decide))
 clear HX3
 clear r0 r3 r5 r6 r7 r9 r10 r11 r12
 have HH:=hide h4
 clear h4 st4
 go_wp2
 go_end0
 rw[HE.out]
 exact⟨rfl,HH.out,HT4.out⟩
theorem choice110(h:MB w mb g s)(rb:Nat)(hrl:mb<rb)(n:NV)(cb:Bool)(dn fl b e:Nat)(hr:w.heap[rb]? =some (rnO mb n cb false dn fl))(q1:0<n.least)(q2:n.way=2)(hfl:fl<s.lab.length)(hs:(choiceM ⟨n.least,n.most,n.way,cb,false,dn,fl⟩ b e s).fits):Calls prog 171 #[.pointer (some ⟨rb,0,none⟩),.int .i64 (b:Int),.int .i64 (e:Int)] w fun en w'=>MkE mb g (choiceM ⟨n.least,n.most,n.way,cb,false,dn,fl⟩ b e s) w en w':=by
 have HS0:=hide ((choice_up _ _ _ s).fits hs)
 have HT0:=hide (Step.refl mb w)
 have HX0:=hide hr
 have HFL:=hide hfl
 have HE:Hid (choiceM ⟨n.least,n.most,n.way,cb,false,dn,fl⟩ b e s=((s).add ⟨11,[],(dn:Int),(b:Int),0,n.least,false,false⟩).add ⟨3,[],(e:Int),(b:Int),0,0,false,false⟩):=by show _=_;unfold choiceM;dsimp only;rw[if_pos q1,if_pos q2,if_neg (by decide)]
 have b2:(n.way==2)=true:=by simpa using q2
 clear hr hs hfl q2
 go_enter func171,ntmps171
 obtain⟨r0,r3,r5,r6,r7,r9,r10,r11,r12⟩:=rn_cells HX0.out
 have hlt0:=h.lt
 have hd0:=h.keep (drew1 w)
 have HD0:=hide (Step.of_below (drew1 w) hlt0)
 have HC1:=hide (add0 hd0 11 dn b 0 n.least false false (by have:=HS0.out.1;have:=HS0.out.2.1;have:=HS0.out.2.2;(try simp only[z1,z2,z3,z4,z5,z6,z7,z8,z9,za,zb,zc]);omega))
 clear h hd0 hlt0
 go_upto_region 1 with fail
 go_still_tail 15,(by kernel_rfl)
 go_wp2_with fail
 refine HC1.out.mono ?_
 rintro e w1 ⟨rfl,h1,st1⟩
 replace st1:=HD0.out.trans st1
 clear HD0
 have HT1:=hide (HT0.out.trans st1)
 clear HC1 HT0
 have HX1:=hide (st1.blk hrl HX0.out (by decide) (by decide))
 clear HX0
 clear r0 r3 r5 r6 r7 r9 r10 r11 r12
 obtain⟨r0,r3,r5,r6,r7,r9,r10,r11,r12⟩:=rn_cells HX1.out
 have HC2:=hide (add0 h1 3 e b 0 0 false false (by have:=HS0.out.1;have:=HS0.out.2.1;have:=HS0.out.2.2;(try simp only[z1]);omega))
 clear h1 st1
 go_wp2_with fail
 refine HC2.out.mono ?_
 rintro e w2 ⟨rfl,h2,st2⟩
 have HT2:=hide (HT1.out.trans st2)
 clear HC2 HT1
 have HX2:=hide (st2.blk hrl HX1.out (by decide) (by decide))
 clear HX1
 clear r0 r3 r5 r6 r7 r9 r10 r11 r12
 obtain⟨r0,r3,r5,r6,r7,r9,r10,r11,r12⟩:=rn_cells HX2.out
 have HH:=hide h2
 clear h2 st2
 go_wp2
 go_end0
 rw[HE.out]
 exact⟨rfl,HH.out,HT2.out⟩
theorem choice101(h:MB w mb g s)(rb:Nat)(hrl:mb<rb)(n:NV)(cb:Bool)(dn fl b e:Nat)(hr:w.heap[rb]? =some (rnO mb n cb true dn fl))(q1:0<n.least)(q2:¬n.way=2)(hfl:fl<s.lab.length)(hs:(choiceM ⟨n.least,n.most,n.way,cb,true,dn,fl⟩ b e s).fits):Calls prog 171 #[.pointer (some ⟨rb,0,none⟩),.int .i64 (b:Int),.int .i64 (e:Int)] w fun en w'=>MkE mb g (choiceM ⟨n.least,n.most,n.way,cb,true,dn,fl⟩ b e s) w en w':=by
 have HS0:=hide ((choice_up _ _ _ s).fits hs)
 have HT0:=hide (Step.refl mb w)
 have HX0:=hide hr
 have HFL:=hide hfl
 have HE:Hid (choiceM ⟨n.least,n.most,n.way,cb,true,dn,fl⟩ b e s=((((s).add ⟨11,[],(dn:Int),(b:Int),0,n.least,false,false⟩).add ⟨3,[],(b:Int),(e:Int),0,0,false,false⟩).stand fl).add ⟨14,[],0,0,0,0,false,false⟩):=by show _=_;unfold choiceM;dsimp only;rw[if_pos q1,if_neg q2,if_pos rfl]
 have b2:(n.way==2)=false:=by simpa using q2
 clear hr hs hfl q2
 go_enter func171,ntmps171
 obtain⟨r0,r3,r5,r6,r7,r9,r10,r11,r12⟩:=rn_cells HX0.out
 have hlt0:=h.lt
 have hd0:=h.keep (drew1 w)
 have HD0:=hide (Step.of_below (drew1 w) hlt0)
 have HC1:=hide (add0 hd0 11 dn b 0 n.least false false (by have:=HS0.out.1;have:=HS0.out.2.1;have:=HS0.out.2.2;(try simp only[z1,z2,z3,z4,z5,z6,z7,z8,z9,za,zb,zc]);omega))
 clear h hd0 hlt0
 go_upto_region 1 with fail
 go_still_tail 15,(by kernel_rfl)
 go_wp2_with fail
 refine HC1.out.mono ?_
 rintro e w1 ⟨rfl,h1,st1⟩
 replace st1:=HD0.out.trans st1
 clear HD0
 have HT1:=hide (HT0.out.trans st1)
 clear HC1 HT0
 have HX1:=hide (st1.blk hrl HX0.out (by decide) (by decide))
 clear HX0
 clear r0 r3 r5 r6 r7 r9 r10 r11 r12
 obtain⟨r0,r3,r5,r6,r7,r9,r10,r11,r12⟩:=rn_cells HX1.out
 have HC2:=hide (add0 h1 3 b e 0 0 false false (by have:=HS0.out.1;have:=HS0.out.2.1;have:=HS0.out.2.2;(try simp only[z1]);omega))
 clear h1 st1
 go_wp2_with fail
 refine HC2.out.mono ?_
 rintro e w2 ⟨rfl,h2,st2⟩
 have HT2:=hide (HT1.out.trans st2)
 clear HC2 HT1
 have HX2:=hide (st2.blk hrl HX1.out (by decide) (by decide))
 clear HX1
 clear r0 r3 r5 r6 r7 r9 r10 r11 r12
 obtain⟨r0,r3,r5,r6,r7,r9,r10,r11,r12⟩:=rn_cells HX2.out
 have hlt2:=h2.lt
 have hd2:=h2.keep (drew1 w2)
 have HD2:=hide (Step.of_below (drew1 w2) hlt2)
 have HC3:=hide (stand_any hd2 fl (by have qx:=HFL.out;have:=HS0.out.1;have:=HS0.out.2.1;have:=HS0.out.2.2;(try simp only[z2]);omega))
 clear h2 st2 hd2 hlt2
 go_upto_region 6 with fail
 go_still_tail 8,(by kernel_rfl)
 go_wp2_with fail
 refine HC3.out.mono ?_
 rintro e w3 ⟨rfl,h3,st3⟩
 replace st3:=HD2.out.trans st3
 clear HD2
 have HT3:=hide (HT2.out.trans st3)
 clear HC3 HT2
 have HX3:=hide (st3.blk hrl HX2.out (by decide) (by decide))
 clear HX2
 clear r0 r3 r5 r6 r7 r9 r10 r11 r12
 obtain⟨r0,r3,r5,r6,r7,r9,r10,r11,r12⟩:=rn_cells HX3.out
 have HC4:=hide (add0 h3 14 0 0 0 0 false false (by have qx:=HFL.out;have:=HS0.out.1;have:=HS0.out.2.1;have:=HS0.out.2.2;(try simp only[z1,za]);omega))
 clear h3 st3
 go_wp2_with fail
 refine HC4.out.mono ?_
 rintro e w4 ⟨rfl,h4,st4⟩
 have HT4:=hide (HT3.out.trans st4)
 clear HC4 HT3
 have HX4:=hide (st4.blk hrl HX3.out (by decide) (by decide))
 clear HX3
 clear r0 r3 r5 r6 r7 r9 r10 r11 r12
 have HH:=hide h4
 clear h4 st4
 go_wp2
 go_end0
 rw[HE.out]
 exact⟨rfl,HH.out,HT4.out⟩
theorem choice100(h:MB w mb g s)(rb:Nat)(hrl:mb<rb)(n:NV)(cb:Bool)(dn fl b e:Nat)(hr:w.heap[rb]? =some (rnO mb n cb false dn fl))(q1:0<n.least)(q2:¬n.way=2)(hfl:fl<s.lab.length)(hs:(choiceM ⟨n.least,n.most,n.way,cb,false,dn,fl⟩ b e s).fits):Calls prog 171 #[.pointer (some ⟨rb,0,none⟩),.int .i64 (b:Int),.int .i64 (e:Int)] w fun en w'=>MkE mb g (choiceM ⟨n.least,n.most,n.way,cb,false,dn,fl⟩ b e s) w en w':=by
 have HS0:=hide ((choice_up _ _ _ s).fits hs)
 have HT0:=hide (Step.refl mb w)
 have HX0:=hide hr
 have HFL:=hide hfl
 have HE:Hid (choiceM ⟨n.least,n.most,n.way,cb,false,dn,fl⟩ b e s=((s).add ⟨11,[],(dn:Int),(b:Int),0,n.least,false,false⟩).add ⟨3,[],(b:Int),(e:Int),0,0,false,false⟩):=by show _=_;unfold choiceM;dsimp only;rw[if_pos q1,if_neg q2,if_neg (by decide)]
 have b2:(n.way==2)=false:=by simpa using q2
 clear hr hs hfl q2
 go_enter func171,ntmps171
 obtain⟨r0,r3,r5,r6,r7,r9,r10,r11,r12⟩:=rn_cells HX0.out
 have hlt0:=h.lt
 have hd0:=h.keep (drew1 w)
 have HD0:=hide (Step.of_below (drew1 w) hlt0)
 have HC1:=hide (add0 hd0 11 dn b 0 n.least false false (by have:=HS0.out.1;have:=HS0.out.2.1;have:=HS0.out.2.2;(try simp only[z1,z2,z3,z4,z5,z6,z7,z8,z9,za,zb,zc]);omega))
 clear h hd0 hlt0
 go_upto_region 1 with fail
 go_still_tail 15,(by kernel_rfl)
 go_wp2_with fail
 refine HC1.out.mono ?_
 rintro e w1 ⟨rfl,h1,st1⟩
 replace st1:=HD0.out.trans st1
 clear HD0
 have HT1:=hide (HT0.out.trans st1)
 clear HC1 HT0
 have HX1:=hide (st1.blk hrl HX0.out (by decide) (by decide))
 clear HX0
 clear r0 r3 r5 r6 r7 r9 r10 r11 r12
 obtain⟨r0,r3,r5,r6,r7,r9,r10,r11,r12⟩:=rn_cells HX1.out
 have HC2:=hide (add0 h1 3 b e 0 0 false false (by have:=HS0.out.1;have:=HS0.out.2.1;have:=HS0.out.2.2;(try simp only[z1]);omega))
 clear h1 st1
 go_wp2_with fail
 refine HC2.out.mono ?_
 rintro e w2 ⟨rfl,h2,st2⟩
 have HT2:=hide (HT1.out.trans st2)
 clear HC2 HT1
 have HX2:=hide (st2.blk hrl HX1.out (by decide) (by decide))
 clear HX1
 clear r0 r3 r5 r6 r7 r9 r10 r11 r12
 obtain⟨r0,r3,r5,r6,r7,r9,r10,r11,r12⟩:=rn_cells HX2.out
 have HH:=hide h2
 clear h2 st2
 go_wp2
 go_end0
 rw[HE.out]
 exact⟨rfl,HH.out,HT2.out⟩
theorem choice011(h:MB w mb g s)(rb:Nat)(hrl:mb<rb)(n:NV)(cb:Bool)(dn fl b e:Nat)(hr:w.heap[rb]? =some (rnO mb n cb true dn fl))(q1:¬0<n.least)(q2:n.way=2)(hfl:fl<s.lab.length)(hs:(choiceM ⟨n.least,n.most,n.way,cb,true,dn,fl⟩ b e s).fits):Calls prog 171 #[.pointer (some ⟨rb,0,none⟩),.int .i64 (b:Int),.int .i64 (e:Int)] w fun en w'=>MkE mb g (choiceM ⟨n.least,n.most,n.way,cb,true,dn,fl⟩ b e s) w en w':=by
 have HS0:=hide ((choice_up _ _ _ s).fits hs)
 have HT0:=hide (Step.refl mb w)
 have HX0:=hide hr
 have HFL:=hide hfl
 have HE:Hid (choiceM ⟨n.least,n.most,n.way,cb,true,dn,fl⟩ b e s=(((s).add ⟨3,[],(e:Int),(b:Int),0,0,false,false⟩).stand fl).add ⟨14,[],0,0,0,0,false,false⟩):=by show _=_;unfold choiceM;dsimp only;rw[if_neg q1,if_pos q2,if_pos rfl]
 have b2:(n.way==2)=true:=by simpa using q2
 clear hr hs hfl q2
 go_enter func171,ntmps171
 obtain⟨r0,r3,r5,r6,r7,r9,r10,r11,r12⟩:=rn_cells HX0.out
 have HC1:=hide (add0 h 3 e b 0 0 false false (by have:=HS0.out.1;have:=HS0.out.2.1;have:=HS0.out.2.2;(try simp only[z1,z2,z3,z4,z5,z6,z7,z8,z9,za,zb,zc]);omega))
 clear h
 go_wp2_with fail
 refine HC1.out.mono ?_
 rintro e w1 ⟨rfl,h1,st1⟩
 have HT1:=hide (HT0.out.trans st1)
 clear HC1 HT0
 have HX1:=hide (st1.blk hrl HX0.out (by decide) (by decide))
 clear HX0
 clear r0 r3 r5 r6 r7 r9 r10 r11 r12
 obtain⟨r0,r3,r5,r6,r7,r9,r10,r11,r12⟩:=rn_cells HX1.out
 have hlt1:=h1.lt
 have hd1:=h1.keep (drew1 w1)
 have HD1:=hide (Step.of_below (drew1 w1) hlt1)
 have HC2:=hide (stand_any hd1 fl (by have qx:=HFL.out;have:=HS0.out.1;have:=HS0.out.2.1;have:=HS0.out.2.2;(try simp only[z2]);omega))
 clear h1 st1 hd1 hlt1
 go_upto_region 6 with fail
 go_still_tail 8,(by kernel_rfl)
 go_wp2_with fail
 refine HC2.out.mono ?_
 rintro e w2 ⟨rfl,h2,st2⟩
 replace st2:=HD1.out.trans st2
 clear HD1
 have HT2:=hide (HT1.out.trans st2)
 clear HC2 HT1
 have HX2:=hide (st2.blk hrl HX1.out (by decide) (by decide))
 clear HX1
 clear r0 r3 r5 r6 r7 r9 r10 r11 r12
 obtain⟨r0,r3,r5,r6,r7,r9,r10,r11,r12⟩:=rn_cells HX2.out
 have HC3:=hide (add0 h2 14 0 0 0 0 false false (by have qx:=HFL.out;have:=HS0.out.1;have:=HS0.out.2.1;have:=HS0.out.2.2;(try simp only[z1,za]);omega))
 clear h2 st2
 go_wp2_with fail
 refine HC3.out.mono ?_
 rintro e w3 ⟨rfl,h3,st3⟩
 have HT3:=hide (HT2.out.trans st3)
 clear HC3 HT2
 have HX3:=hide (st3.blk hrl HX2.out (by decide) (by decide))
 clear HX2
 clear r0 r3 r5 r6 r7 r9 r10 r11 r12
 have HH:=hide h3
 clear h3 st3
 go_wp2
 go_end0
 rw[HE.out]
 exact⟨rfl,HH.out,HT3.out⟩
theorem choice010(h:MB w mb g s)(rb:Nat)(hrl:mb<rb)(n:NV)(cb:Bool)(dn fl b e:Nat)(hr:w.heap[rb]? =some (rnO mb n cb false dn fl))(q1:¬0<n.least)(q2:n.way=2)(hfl:fl<s.lab.length)(hs:(choiceM ⟨n.least,n.most,n.way,cb,false,dn,fl⟩ b e s).fits):Calls prog 171 #[.pointer (some ⟨rb,0,none⟩),.int .i64 (b:Int),.int .i64 (e:Int)] w fun en w'=>MkE mb g (choiceM ⟨n.least,n.most,n.way,cb,false,dn,fl⟩ b e s) w en w':=by
 have HS0:=hide ((choice_up _ _ _ s).fits hs)
 have HT0:=hide (Step.refl mb w)
 have HX0:=hide hr
 have HFL:=hide hfl
 have HE:Hid (choiceM ⟨n.least,n.most,n.way,cb,false,dn,fl⟩ b e s=(s).add ⟨3,[],(e:Int),(b:Int),0,0,false,false⟩):=by show _=_;unfold choiceM;dsimp only;rw[if_neg q1,if_pos q2,if_neg (by decide)]
 have b2:(n.way==2)=true:=by simpa using q2
 clear hr hs hfl q2
 go_enter func171,ntmps171
 obtain⟨r0,r3,r5,r6,r7,r9,r10,r11,r12⟩:=rn_cells HX0.out
 have HC1:=hide (add0 h 3 e b 0 0 false false (by have:=HS0.out.1;have:=HS0.out.2.1;have:=HS0.out.2.2;(try simp only[z1,z2,z3,z4,z5,z6,z7,z8,z9,za,zb,zc]);omega))
 clear h
 go_wp2_with fail
 refine HC1.out.mono ?_
 rintro e w1 ⟨rfl,h1,st1⟩
 have HT1:=hide (HT0.out.trans st1)
 clear HC1 HT0
 have HX1:=hide (st1.blk hrl HX0.out (by decide) (by decide))
 clear HX0
 clear r0 r3 r5 r6 r7 r9 r10 r11 r12
 obtain⟨r0,r3,r5,r6,r7,r9,r10,r11,r12⟩:=rn_cells HX1.out
 have HH:=hide h1
 clear h1 st1
 go_wp2
 go_end0
 rw[HE.out]
 exact⟨rfl,HH.out,HT1.out⟩
theorem choice001(h:MB w mb g s)(rb:Nat)(hrl:mb<rb)(n:NV)(cb:Bool)(dn fl b e:Nat)(hr:w.heap[rb]? =some (rnO mb n cb true dn fl))(q1:¬0<n.least)(q2:¬n.way=2)(hfl:fl<s.lab.length)(hs:(choiceM ⟨n.least,n.most,n.way,cb,true,dn,fl⟩ b e s).fits):Calls prog 171 #[.pointer (some ⟨rb,0,none⟩),.int .i64 (b:Int),.int .i64 (e:Int)] w fun en w'=>MkE mb g (choiceM ⟨n.least,n.most,n.way,cb,true,dn,fl⟩ b e s) w en w':=by
 have HS0:=hide ((choice_up _ _ _ s).fits hs)
 have HT0:=hide (Step.refl mb w)
 have HX0:=hide hr
 have HFL:=hide hfl
 have HE:Hid (choiceM ⟨n.least,n.most,n.way,cb,true,dn,fl⟩ b e s=(((s).add ⟨3,[],(b:Int),(e:Int),0,0,false,false⟩).stand fl).add ⟨14,[],0,0,0,0,false,false⟩):=by show _=_;unfold choiceM;dsimp only;rw[if_neg q1,if_neg q2,if_pos rfl]
 have b2:(n.way==2)=false:=by simpa using q2
 clear hr hs hfl q2
 go_enter func171,ntmps171
 obtain⟨r0,r3,r5,r6,r7,r9,r10,r11,r12⟩:=rn_cells HX0.out
 have HC1:=hide (add0 h 3 b e 0 0 false false (by have:=HS0.out.1;have:=HS0.out.2.1;have:=HS0.out.2.2;(try simp only[z1,z2,z3,z4,z5,z6,z7,z8,z9,za,zb,zc]);omega))
 clear h
 go_wp2_with fail
 refine HC1.out.mono ?_
 rintro e w1 ⟨rfl,h1,st1⟩
 have HT1:=hide (HT0.out.trans st1)
 clear HC1 HT0
 have HX1:=hide (st1.blk hrl HX0.out (by decide) (by decide))
 clear HX0
 clear r0 r3 r5 r6 r7 r9 r10 r11 r12
 obtain⟨r0,r3,r5,r6,r7,r9,r10,r11,r12⟩:=rn_cells HX1.out
 have hlt1:=h1.lt
 have hd1:=h1.keep (drew1 w1)
 have HD1:=hide (Step.of_below (drew1 w1) hlt1)
 have HC2:=hide (stand_any hd1 fl (by have qx:=HFL.out;have:=HS0.out.1;have:=HS0.out.2.1;have:=HS0.out.2.2;(try simp only[z2]);omega))
 clear h1 st1 hd1 hlt1
 go_upto_region 6 with fail
 go_still_tail 8,(by kernel_rfl)
 go_wp2_with fail
 refine HC2.out.mono ?_
 rintro e w2 ⟨rfl,h2,st2⟩
 replace st2:=HD1.out.trans st2
 clear HD1
 have HT2:=hide (HT1.out.trans st2)
 clear HC2 HT1
 have HX2:=hide (st2.blk hrl HX1.out (by decide) (by decide))
 clear HX1
 clear r0 r3 r5 r6 r7 r9 r10 r11 r12
 obtain⟨r0,r3,r5,r6,r7,r9,r10,r11,r12⟩:=rn_cells HX2.out
 have HC3:=hide (add0 h2 14 0 0 0 0 false false (by have qx:=HFL.out;have:=HS0.out.1;have:=HS0.out.2.1;have:=HS0.out.2.2;(try simp only[z1,za]);omega))
 clear h2 st2
 go_wp2_with fail
 refine HC3.out.mono ?_
 rintro e w3 ⟨rfl,h3,st3⟩
 have HT3:=hide (HT2.out.trans st3)
 clear HC3 HT2
 have HX3:=hide (st3.blk hrl HX2.out (by decide) (by decide))
 clear HX2
 clear r0 r3 r5 r6 r7 r9 r10 r11 r12
 have HH:=hide h3
 clear h3 st3
 go_wp2
 go_end0
 rw[HE.out]
 exact⟨rfl,HH.out,HT3.out⟩
theorem choice000(h:MB w mb g s)(rb:Nat)(hrl:mb<rb)(n:NV)(cb:Bool)(dn fl b e:Nat)(hr:w.heap[rb]? =some (rnO mb n cb false dn fl))(q1:¬0<n.least)(q2:¬n.way=2)(hfl:fl<s.lab.length)(hs:(choiceM ⟨n.least,n.most,n.way,cb,false,dn,fl⟩ b e s).fits):Calls prog 171 #[.pointer (some ⟨rb,0,none⟩),.int .i64 (b:Int),.int .i64 (e:Int)] w fun en w'=>MkE mb g (choiceM ⟨n.least,n.most,n.way,cb,false,dn,fl⟩ b e s) w en w':=by
 have HS0:=hide ((choice_up _ _ _ s).fits hs)
 have HT0:=hide (Step.refl mb w)
 have HX0:=hide hr
 have HFL:=hide hfl
 have HE:Hid (choiceM ⟨n.least,n.most,n.way,cb,false,dn,fl⟩ b e s=(s).add ⟨3,[],(b:Int),(e:Int),0,0,false,false⟩):=by show _=_;unfold choiceM;dsimp only;rw[if_neg q1,if_neg q2,if_neg (by decide)]
 have b2:(n.way==2)=false:=by simpa using q2
 clear hr hs hfl q2
 go_enter func171,ntmps171
 obtain⟨r0,r3,r5,r6,r7,r9,r10,r11,r12⟩:=rn_cells HX0.out
 have HC1:=hide (add0 h 3 b e 0 0 false false (by have:=HS0.out.1;have:=HS0.out.2.1;have:=HS0.out.2.2;(try simp only[z1,z2,z3,z4,z5,z6,z7,z8,z9,za,zb,zc]);omega))
 clear h
 go_wp2_with fail
 refine HC1.out.mono ?_
 rintro e w1 ⟨rfl,h1,st1⟩
 have HT1:=hide (HT0.out.trans st1)
 clear HC1 HT0
 have HX1:=hide (st1.blk hrl HX0.out (by decide) (by decide))
 clear HX0
 clear r0 r3 r5 r6 r7 r9 r10 r11 r12
 obtain⟨r0,r3,r5,r6,r7,r9,r10,r11,r12⟩:=rn_cells HX1.out
 have HH:=hide h1
 clear h1 st1
 go_wp2
 go_end0
 rw[HE.out]
 exact⟨rfl,HH.out,HT1.out⟩
theorem choice_any(h:MB w mb g s)(rb:Nat)(hrl:mb<rb)(n:NV)(cb wb:Bool)(dn fl b e:Nat)(hr:w.heap[rb]? =some (rnO mb n cb wb dn fl))(hfl:fl<s.lab.length)(hs:(choiceM ⟨n.least,n.most,n.way,cb,wb,dn,fl⟩ b e s).fits):Calls prog 171 #[.pointer (some ⟨rb,0,none⟩),.int .i64 (b:Int),.int .i64 (e:Int)] w fun en w'=>MkE mb g (choiceM ⟨n.least,n.most,n.way,cb,wb,dn,fl⟩ b e s) w en w':=by
 by_cases q1:0<n.least<;>by_cases q2:n.way=2<;>cases wb
 ·exact choice110 h rb hrl n cb dn fl b e hr q1 q2 hfl hs
 ·exact choice111 h rb hrl n cb dn fl b e hr q1 q2 hfl hs
 ·exact choice100 h rb hrl n cb dn fl b e hr q1 q2 hfl hs
 ·exact choice101 h rb hrl n cb dn fl b e hr q1 q2 hfl hs
 ·exact choice010 h rb hrl n cb dn fl b e hr q1 q2 hfl hs
 ·exact choice011 h rb hrl n cb dn fl b e hr q1 q2 hfl hs
 ·exact choice000 h rb hrl n cb dn fl b e hr q1 q2 hfl hs
 ·exact choice001 h rb hrl n cb dn fl b e hr q1 q2 hfl hs
end Go.Proofs.YtfnndcbjklppeaaGreatDoor.Mk
