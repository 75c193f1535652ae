import Derived.Test.YtfnndcbjklppeaaGreatDoorYB2
import Derived.Deep.RegionHeld
set_option maxHeartbeats 8000000
set_option linter.unusedVariables false
set_option maxRecDepth 100000
open Go.Proofs.Tryz
namespace Go.Proofs.YtfnndcbjklppeaaGreatDoor.Mk
open Go.RowKit
variable {w w' : World} {mb : Nat} {g : Int} {s s' : MS}
theorem all110(h:MB w mb g s)(rb:Nat)(hrl:mb<rb)(n v:NV)(x:Addr)(wb:Bool)(dn fl:Nat)(hr:w.heap[rb]? =some (rnO mb n true wb dn fl))(hka:n.ka=some x)(hkl:n.kl=1)(hK:∀W,Step mb w W→NCells W x v)(f:MS→MS)(hu:Up f)(hf:DoesF mb g w 42 #[.pointer (some ⟨mb,0,none⟩),nvV v] f)(hfl:fl<s.lab.length)(q1:n.least=n.most)(q2:¬n.most<0)(q3:0<n.most)(hs:(allM ⟨n.least,n.most,n.way,true,wb,dn,fl⟩ f s).fits):Calls prog 148 #[.pointer (some ⟨rb,0,none⟩)] w fun e w'=>MkE mb g (allM ⟨n.least,n.most,n.way,true,wb,dn,fl⟩ f s) w e w':=by
 have HS0:=hide ((all_up _ hu s).fits hs)
 have HX0:=hide hr
 have HF:=hide hf
 have HK:=hide hK
 have HFL:=hide hfl
 have HUf:=hide hu
 have HKA:=hide hka
 have HKL:=hide hkl
 have HE:Hid (allM ⟨n.least,n.most,n.way,true,wb,dn,fl⟩ f s=((roundM ⟨n.least,n.most,n.way,true,wb,dn,fl⟩ f ((((s.newL.newL.newL).add ⟨9,[],(dn:Int),0,0,0,false,false⟩).stand s.lab.length).stand (s.lab.length+1))).add ⟨10,[],(dn:Int),(s.lab.length:Int),0,n.most,false,false⟩).stand (s.lab.length+2)):=by show _=_;unfold allM;dsimp only;rw[if_pos q1,if_pos q3,if_neg q2]<;>rfl
 have HF4:Hid (roundM ⟨n.least,n.most,n.way,true,wb,dn,fl⟩ f ((((s.newL.newL.newL).add ⟨9,[],(dn:Int),0,0,0,false,false⟩).stand s.lab.length).stand (s.lab.length+1))).fits:=by have hh:=hs;rw[HE.out]at hh;exact((((MS.le.refl _).add _).stand _).fits hh)
 have HF3:Hid ((((s.newL.newL.newL).add ⟨9,[],(dn:Int),0,0,0,false,false⟩).stand s.lab.length).stand (s.lab.length+1)).fits:=(round_up _ hu _).fits HF4.out
 have HU4:Hid (((((s.newL.newL.newL).add ⟨9,[],(dn:Int),0,0,0,false,false⟩).stand s.lab.length).stand (s.lab.length+1)).le (roundM ⟨n.least,n.most,n.way,true,wb,dn,fl⟩ f ((((s.newL.newL.newL).add ⟨9,[],(dn:Int),0,0,0,false,false⟩).stand s.lab.length).stand (s.lab.length+1)))):=round_up _ hu _
 obtain⟨l,hl⟩:=named s.lab.length
 have HN0:=hide hl
 clear hl
 obtain⟨l1,hl1⟩:=named (l+1)
 have HN1:=hide hl1
 clear hl1
 obtain⟨l2,hl2⟩:=named (l+2)
 have HN2:=hide hl2
 clear hl2
 rw[← HN0.out, ←HN1.out]at HF4 HF3 HU4
 rw[← HN0.out, ←HN1.out, ←HN2.out]at HE
 have hlt:=h.lt
 have HS:Hid (Step mb w w.drew):=Step.of_below (drew1 w) hlt
 have HM0:=hide (h.keep (drew1 w))
 have HC1:=hide (newL_at HM0.out l (by have e0:=HN0.out;have e1:=HN1.out;have e2:=HN2.out;have:=HS0.out.1;have:=HS0.out.2.1;have:=HS0.out.2.2;(try simp only[z1,z2,z3,z4,z5,z6,z7,z8,z9,za,zb,zc]);omega) (by have e0:=HN0.out;have e1:=HN1.out;have e2:=HN2.out;have:=HS0.out.1;have:=HS0.out.2.1;have:=HS0.out.2.2;(try simp only[z1,z2,z3,z4,z5,z6,z7,z8,z9,za,zb,zc]);omega))
 clear hr hs hf hK hka hkl hu hfl h
 go_enter func148,ntmps148
 go_upto_region 0 with fail
 refine wp_region_held (S:=fun w'=>Step mb w w') (by kernel_rfl) ?_
 change wpAnyH _ _ _ _ _ _ _ _ (World.drew _)
 refine takeH 0 (.pointer (some ⟨rb,0,none⟩)) rfl (fun _ _ _ h=>h) HS.out (fun w' hS=>?_) ?_
 ·go_simp
 refine takeH 1 (.pointer (some ⟨rb,0,none⟩)) rfl (fun _ _ _ h=>h) HS.out (fun w' hS=>?_) ?_
 ·go_simp
 refine takeH 2 (.pointer (some ⟨rb,0,none⟩)) rfl (fun _ _ _ h=>h) HS.out (fun w' hS=>?_) ?_
 ·go_simp
 refine takeH 3 (.pointer (some ⟨mb,0,none⟩)) rfl (fun _ _ _ h=>h) HS.out (fun w' hS=>?_) ?_
 ·(obtain⟨y0, -⟩:=rn_cells (hS.blk hrl HX0.out (by decide) (by decide));go_simp)
 refine takeH 5 (.pointer (some ⟨rb,0,none⟩)) rfl (fun _ _ _ h=>h) HS.out (fun w' hS=>?_) ?_
 ·go_simp
 refine takeH 6 (.pointer (some ⟨rb,0,none⟩)) rfl (fun _ _ _ h=>h) HS.out (fun w' hS=>?_) ?_
 ·go_simp
 refine takeH 7 (.pointer (some ⟨rb,0,none⟩)) rfl (fun _ _ _ h=>h) HS.out (fun w' hS=>?_) ?_
 ·go_simp
 refine takeH 8 (.pointer (some ⟨mb,0,none⟩)) rfl (fun _ _ _ h=>h) HS.out (fun w' hS=>?_) ?_
 ·(obtain⟨y0, -⟩:=rn_cells (hS.blk hrl HX0.out (by decide) (by decide));go_simp)
 refine takeH 10 (.pointer (some ⟨rb,0,none⟩)) rfl (fun _ _ _ h=>h) HS.out (fun w' hS=>?_) ?_
 ·go_simp
 refine takeH 11 (.pointer (some ⟨rb,0,none⟩)) rfl (fun _ _ _ h=>h) HS.out (fun w' hS=>?_) ?_
 ·go_simp
 refine takeH 12 (.pointer (some ⟨rb,0,none⟩)) rfl (fun _ _ _ h=>h) HS.out (fun w' hS=>?_) ?_
 ·go_simp
 refine takeH 13 (.pointer (some ⟨mb,0,none⟩)) rfl (fun _ _ _ h=>h) HS.out (fun w' hS=>?_) ?_
 ·(obtain⟨y0, -⟩:=rn_cells (hS.blk hrl HX0.out (by decide) (by decide));go_simp)
 refine wpAnyH_ready (rs:=[4]) (by kernel_rfl) (by simp) ?_
 refine AllReadyH.cons rfl (fun K hK=>?_) AllReadyH.nil
 go_simp
 refine HC1.out.mono ?_
 rintro e w1 ⟨rfl,h1,st1⟩
 have HT1:=hide (HS.out.trans st1)
 refine hK.out _ _ HT1.out (fun _=>?_)
 clear hK K
 have HX1:=hide ((HS.out.trans st1).blk hrl HX0.out (by decide) (by decide))
 have HC2:=hide (newL_at h1 l1 (by have e0:=HN0.out;have e1:=HN1.out;have e2:=HN2.out;have:=HS0.out.1;have:=HS0.out.2.1;have:=HS0.out.2.2;(try simp only[z8]);omega) (by have e0:=HN0.out;have e1:=HN1.out;have e2:=HN2.out;have:=HS0.out.1;have:=HS0.out.2.1;have:=HS0.out.2.2;(try simp only[z1,z2,z3,z4,z5,z6,z7,z8,z9,za,zb,zc]);omega))
 clear h1 st1
 refine wpAnyH_ready (rs:=[9]) (by kernel_rfl) (by simp) ?_
 refine AllReadyH.cons rfl (fun K hK=>?_) AllReadyH.nil
 go_simp
 refine HC2.out.mono ?_
 rintro e w2 ⟨rfl,h2,st2⟩
 have HT2:=hide (HT1.out.trans st2)
 refine hK.out _ _ HT2.out (fun _=>?_)
 clear hK K
 have HX2:=hide (st2.blk hrl HX1.out (by decide) (by decide))
 have HC3:=hide (newL_at h2 l2 (by have e0:=HN0.out;have e1:=HN1.out;have e2:=HN2.out;have:=HS0.out.1;have:=HS0.out.2.1;have:=HS0.out.2.2;(try simp only[z8]);omega) (by have e0:=HN0.out;have e1:=HN1.out;have e2:=HN2.out;have:=HS0.out.1;have:=HS0.out.2.1;have:=HS0.out.2.2;(try simp only[z1,z2,z3,z4,z5,z6,z7,z8,z9,za,zb,zc]);omega))
 clear h2 st2
 refine wpAnyH_ready (rs:=[14]) (by kernel_rfl) (by simp) ?_
 refine AllReadyH.cons rfl (fun K hK=>?_) AllReadyH.nil
 go_simp
 refine HC3.out.mono ?_
 rintro e w3 ⟨rfl,h3,st3⟩
 have HT3:=hide (HT2.out.trans st3)
 refine hK.out _ _ HT3.out (fun _=>?_)
 clear hK K
 have HX3:=hide (st3.blk hrl HX2.out (by decide) (by decide))
 refine takeH 15 (.int .i64 (l:Int)) rfl (fun _ _ _ h=>h) HT3.out (fun w' hS=>?_) ?_
 ·go_simp
 refine takeH 16 (.int .i64 (l1:Int)) rfl (fun _ _ _ h=>h) HT3.out (fun w' hS=>?_) ?_
 ·go_simp
 refine takeH 17 (.int .i64 (l2:Int)) rfl (fun _ _ _ h=>h) HT3.out (fun w' hS=>?_) ?_
 ·go_simp
 refine wpAnyH_done (by kernel_rfl) ?_ _
 clear HC1 HC2 HC3 HT1 HT2 HX0 HX1 HX2 HM0 HS
 obtain⟨r0,r3,r5,r6,r7,r9,r10,r11,r12⟩:=rn_cells HX3.out
 have hlt3:=h3.lt
 have hd3:=h3.keep (drew1 w3)
 have HD3:=hide (Step.of_below (drew1 w3) hlt3)
 have HC4:=hide (add0 hd3 9 dn 0 0 0 false false (by have e0:=HN0.out;have e1:=HN1.out;have e2:=HN2.out;have:=HS0.out.1;have:=HS0.out.2.1;have:=HS0.out.2.2;(try simp only[z7]);omega))
 clear h3 st3 hd3 hlt3
 go_upto_region 2 with fail
 go_still_tail 9,(by kernel_rfl)
 go_wp2_with fail
 refine HC4.out.mono ?_
 rintro e w4 ⟨rfl,h4,st4⟩
 replace st4:=HD3.out.trans st4
 clear HD3
 have HT4:=hide (HT3.out.trans st4)
 clear HC4 HT3
 have HX4:=hide (st4.blk hrl HX3.out (by decide) (by decide))
 clear HX3
 clear r0 r3 r5 r6 r7 r9 r10 r11 r12
 obtain⟨r0,r3,r5,r6,r7,r9,r10,r11,r12⟩:=rn_cells HX4.out
 have HC5:=hide (stand_any h4 l (by have e0:=HN0.out;have e1:=HN1.out;have e2:=HN2.out;have:=HS0.out.1;have:=HS0.out.2.1;have:=HS0.out.2.2;(try simp only[z2,z8]);omega))
 clear h4 st4
 go_wp2_with fail
 refine HC5.out.mono ?_
 rintro e w5 ⟨rfl,h5,st5⟩
 have HT5:=hide (HT4.out.trans st5)
 clear HC5 HT4
 have HX5:=hide (st5.blk hrl HX4.out (by decide) (by decide))
 clear HX4
 clear r0 r3 r5 r6 r7 r9 r10 r11 r12
 obtain⟨r0,r3,r5,r6,r7,r9,r10,r11,r12⟩:=rn_cells HX5.out
 have hlt5:=h5.lt
 have hd:=Step.of_below (drew1 w5) hlt5
 replace h5:=h5.keep (drew1 w5)
 have HTd:=hide (HT5.out.trans hd)
 have HXd:=hide (hd.blk hrl HX5.out (by decide) (by decide))
 have bq:(n.least==n.most)=true:=by simpa using q1
 go_upto_region 4 with fail
 go_region
 obtain⟨wd,hwd⟩:=named w5.drew
 rw[← hwd]at h5 HTd HXd ⊢
 clear hwd r0 r3 r5 r6 r7 r9 r10 r11 r12 hlt5 hd HT5 HX5 st5
 have HT5:=hide HTd.out
 have HX5:=hide HXd.out
 have st5:True:=trivial
 clear HTd HXd
 obtain⟨r0,r3,r5,r6,r7,r9,r10,r11,r12⟩:=rn_cells HX5.out
 have HC6:=hide (stand_any h5 l1 (by have e0:=HN0.out;have e1:=HN1.out;have e2:=HN2.out;have:=HS0.out.1;have:=HS0.out.2.1;have:=HS0.out.2.2;(try simp only[z2,z8,zb]);omega))
 clear h5 st5
 go_wp2_with fail
 refine HC6.out.mono ?_
 rintro e w6 ⟨rfl,h6,st6⟩
 have HT6:=hide (HT5.out.trans st6)
 clear HC6 HT5
 have HX6:=hide (st6.blk hrl HX5.out (by decide) (by decide))
 clear HX5
 clear r0 r3 r5 r6 r7 r9 r10 r11 r12
 obtain⟨r0,r3,r5,r6,r7,r9,r10,r11,r12⟩:=rn_cells HX6.out
 have HC7:=hide (round_any h6 rb hrl n v x true wb dn fl HX6.out HKA.out HKL.out (fun W hW=>HK.out W (HT6.out.trans hW)) f HUf.out (fun W s hW hM hh=>HF.out W s (HT6.out.trans hW) hM hh) HF4.out)
 clear h6 st6
 go_wp2_with fail
 refine HC7.out.mono ?_
 rintro e w7 ⟨rfl,h7,st7⟩
 have HT7:=hide (HT6.out.trans st7)
 clear HC7 HT6
 have HX7:=hide (st7.blk hrl HX6.out (by decide) (by decide))
 clear HX6
 clear r0 r3 r5 r6 r7 r9 r10 r11 r12
 obtain⟨r0,r3,r5,r6,r7,r9,r10,r11,r12⟩:=rn_cells HX7.out
 have hlt7:=h7.lt
 have hd7:=h7.keep (drew1 w7)
 have HD7:=hide (Step.of_below (drew1 w7) hlt7)
 have HC8:=hide (add0 hd7 10 dn l 0 n.most false false (by have e0:=HN0.out;have e1:=HN1.out;have e2:=HN2.out;have:=HS0.out.1;have:=HS0.out.2.1;have:=HS0.out.2.2;have:=HF4.out.1;have:=HF4.out.2.1;have:=HF4.out.2.2;have qHU4:=HU4.out.lab;have rHU4:=HU4.out.cnt;(try simp only[z2,z8,zb]at qHU4);(try simp only[z3,z9,zc]at rHU4);(try simp only[z1,z2,z3,z4,z5,z6,z7,z8,z9,za,zb,zc]);omega))
 clear h7 st7 hd7 hlt7
 go_upto_region 9 with fail
 go_still_tail 16,(by kernel_rfl)
 go_wp2_with fail
 refine HC8.out.mono ?_
 rintro e w8 ⟨rfl,h8,st8⟩
 replace st8:=HD7.out.trans st8
 clear HD7
 have HT8:=hide (HT7.out.trans st8)
 clear HC8 HT7
 have HX8:=hide (st8.blk hrl HX7.out (by decide) (by decide))
 clear HX7
 clear r0 r3 r5 r6 r7 r9 r10 r11 r12
 obtain⟨r0,r3,r5,r6,r7,r9,r10,r11,r12⟩:=rn_cells HX8.out
 have HC9:=hide (stand_any h8 l2 (by have e0:=HN0.out;have e1:=HN1.out;have e2:=HN2.out;have:=HS0.out.1;have:=HS0.out.2.1;have:=HS0.out.2.2;have:=HF4.out.1;have:=HF4.out.2.1;have:=HF4.out.2.2;have qHU4:=HU4.out.lab;have rHU4:=HU4.out.cnt;(try simp only[z2,z8,zb]at qHU4);(try simp only[z3,z9,zc]at rHU4);(try simp only[z2]);omega))
 clear h8 st8
 go_wp2_with fail
 refine HC9.out.mono ?_
 rintro e w9 ⟨rfl,h9,st9⟩
 have HT9:=hide (HT8.out.trans st9)
 clear HC9 HT8
 have HX9:=hide (st9.blk hrl HX8.out (by decide) (by decide))
 clear HX8
 clear r0 r3 r5 r6 r7 r9 r10 r11 r12
 have HH:=hide h9
 clear h9 st9
 go_wp2
 go_end0
 rw[HE.out]
 exact⟨rfl,HH.out,HT9.out⟩
variable {w w' : World} {mb : Nat} {g : Int} {s s' : MS}
theorem all101(h:MB w mb g s)(rb:Nat)(hrl:mb<rb)(n v:NV)(x:Addr)(wb:Bool)(dn fl:Nat)(hr:w.heap[rb]? =some (rnO mb n true wb dn fl))(hka:n.ka=some x)(hkl:n.kl=1)(hK:∀W,Step mb w W→NCells W x v)(f:MS→MS)(hu:Up f)(hf:DoesF mb g w 42 #[.pointer (some ⟨mb,0,none⟩),nvV v] f)(hfl:fl<s.lab.length)(q1:¬n.least=n.most)(q2:n.most<0)(hs:(allM ⟨n.least,n.most,n.way,true,wb,dn,fl⟩ f s).fits):Calls prog 148 #[.pointer (some ⟨rb,0,none⟩)] w fun e w'=>MkE mb g (allM ⟨n.least,n.most,n.way,true,wb,dn,fl⟩ f s) w e w':=by
 have HS0:=hide ((all_up _ hu s).fits hs)
 have HX0:=hide hr
 have HF:=hide hf
 have HK:=hide hK
 have HFL:=hide hfl
 have HUf:=hide hu
 have HKA:=hide hka
 have HKL:=hide hkl
 have HE:Hid (allM ⟨n.least,n.most,n.way,true,wb,dn,fl⟩ f s=(((roundM ⟨n.least,n.most,n.way,true,wb,dn,fl⟩ f ((choiceM ⟨n.least,n.most,n.way,true,wb,dn,fl⟩ (s.lab.length+1) (s.lab.length+2) (((s.newL.newL.newL).add ⟨9,[],(dn:Int),0,0,0,false,false⟩).stand s.lab.length)).stand (s.lab.length+1))).add ⟨10,[],(dn:Int),(s.lab.length:Int),0,0,false,false⟩).add ⟨2,[],(s.lab.length:Int),0,0,0,false,false⟩).stand (s.lab.length+2)):=by show _=_;unfold allM;dsimp only;rw[if_neg q1,if_neg (show ¬(0<n.most) by omega),if_pos q2]<;>rfl
 have HF4:Hid (roundM ⟨n.least,n.most,n.way,true,wb,dn,fl⟩ f ((choiceM ⟨n.least,n.most,n.way,true,wb,dn,fl⟩ (s.lab.length+1) (s.lab.length+2) (((s.newL.newL.newL).add ⟨9,[],(dn:Int),0,0,0,false,false⟩).stand s.lab.length)).stand (s.lab.length+1))).fits:=by have hh:=hs;rw[HE.out]at hh;exact(((((MS.le.refl _).add _).add _).stand _).fits hh)
 have HF3:Hid ((choiceM ⟨n.least,n.most,n.way,true,wb,dn,fl⟩ (s.lab.length+1) (s.lab.length+2) (((s.newL.newL.newL).add ⟨9,[],(dn:Int),0,0,0,false,false⟩).stand s.lab.length)).stand (s.lab.length+1)).fits:=(round_up _ hu _).fits HF4.out
 have HF2:Hid (choiceM ⟨n.least,n.most,n.way,true,wb,dn,fl⟩ (s.lab.length+1) (s.lab.length+2) (((s.newL.newL.newL).add ⟨9,[],(dn:Int),0,0,0,false,false⟩).stand s.lab.length)).fits:=(le_stand _ _).fits HF3.out
 have HU2:Hid ((((s.newL.newL.newL).add ⟨9,[],(dn:Int),0,0,0,false,false⟩).stand s.lab.length).le (choiceM ⟨n.least,n.most,n.way,true,wb,dn,fl⟩ (s.lab.length+1) (s.lab.length+2) (((s.newL.newL.newL).add ⟨9,[],(dn:Int),0,0,0,false,false⟩).stand s.lab.length))):=choice_up _ _ _ _
 have HU4:Hid (((choiceM ⟨n.least,n.most,n.way,true,wb,dn,fl⟩ (s.lab.length+1) (s.lab.length+2) (((s.newL.newL.newL).add ⟨9,[],(dn:Int),0,0,0,false,false⟩).stand s.lab.length)).stand (s.lab.length+1)).le (roundM ⟨n.least,n.most,n.way,true,wb,dn,fl⟩ f ((choiceM ⟨n.least,n.most,n.way,true,wb,dn,fl⟩ (s.lab.length+1) (s.lab.length+2) (((s.newL.newL.newL).add ⟨9,[],(dn:Int),0,0,0,false,false⟩).stand s.lab.length)).stand (s.lab.length+1)))):=round_up _ hu _
 obtain⟨l,hl⟩:=named s.lab.length
 have HN0:=hide hl
 clear hl
 obtain⟨l1,hl1⟩:=named (l+1)
 have HN1:=hide hl1
 clear hl1
 obtain⟨l2,hl2⟩:=named (l+2)
 have HN2:=hide hl2
 clear hl2
 rw[← HN0.out, ←HN1.out, ←HN2.out]at HE HF4 HF3 HU4 HF2 HU2
 have hlt:=h.lt
 have HS:Hid (Step mb w w.drew):=Step.of_below (drew1 w) hlt
 have HM0:=hide (h.keep (drew1 w))
 have HC1:=hide (newL_at HM0.out l (by have e0:=HN0.out;have e1:=HN1.out;have e2:=HN2.out;have:=HS0.out.1;have:=HS0.out.2.1;have:=HS0.out.2.2;(try simp only[z1,z2,z3,z4,z5,z6,z7,z8,z9,za,zb,zc]);omega) (by have e0:=HN0.out;have e1:=HN1.out;have e2:=HN2.out;have:=HS0.out.1;have:=HS0.out.2.1;have:=HS0.out.2.2;(try simp only[z1,z2,z3,z4,z5,z6,z7,z8,z9,za,zb,zc]);omega))
 clear hr hs hf hK hka hkl hu hfl h
 go_enter func148,ntmps148
 go_upto_region 0 with fail
 refine wp_region_held (S:=fun w'=>Step mb w w') (by kernel_rfl) ?_
 change wpAnyH _ _ _ _ _ _ _ _ (World.drew _)
 refine takeH 0 (.pointer (some ⟨rb,0,none⟩)) rfl (fun _ _ _ h=>h) HS.out (fun w' hS=>?_) ?_
 ·go_simp
 refine takeH 1 (.pointer (some ⟨rb,0,none⟩)) rfl (fun _ _ _ h=>h) HS.out (fun w' hS=>?_) ?_
 ·go_simp
 refine takeH 2 (.pointer (some ⟨rb,0,none⟩)) rfl (fun _ _ _ h=>h) HS.out (fun w' hS=>?_) ?_
 ·go_simp
 refine takeH 3 (.pointer (some ⟨mb,0,none⟩)) rfl (fun _ _ _ h=>h) HS.out (fun w' hS=>?_) ?_
 ·(obtain⟨y0, -⟩:=rn_cells (hS.blk hrl HX0.out (by decide) (by decide));go_simp)
 refine takeH 5 (.pointer (some ⟨rb,0,none⟩)) rfl (fun _ _ _ h=>h) HS.out (fun w' hS=>?_) ?_
 ·go_simp
 refine takeH 6 (.pointer (some ⟨rb,0,none⟩)) rfl (fun _ _ _ h=>h) HS.out (fun w' hS=>?_) ?_
 ·go_simp
 refine takeH 7 (.pointer (some ⟨rb,0,none⟩)) rfl (fun _ _ _ h=>h) HS.out (fun w' hS=>?_) ?_
 ·go_simp
 refine takeH 8 (.pointer (some ⟨mb,0,none⟩)) rfl (fun _ _ _ h=>h) HS.out (fun w' hS=>?_) ?_
 ·(obtain⟨y0, -⟩:=rn_cells (hS.blk hrl HX0.out (by decide) (by decide));go_simp)
 refine takeH 10 (.pointer (some ⟨rb,0,none⟩)) rfl (fun _ _ _ h=>h) HS.out (fun w' hS=>?_) ?_
 ·go_simp
 refine takeH 11 (.pointer (some ⟨rb,0,none⟩)) rfl (fun _ _ _ h=>h) HS.out (fun w' hS=>?_) ?_
 ·go_simp
 refine takeH 12 (.pointer (some ⟨rb,0,none⟩)) rfl (fun _ _ _ h=>h) HS.out (fun w' hS=>?_) ?_
 ·go_simp
 refine takeH 13 (.pointer (some ⟨mb,0,none⟩)) rfl (fun _ _ _ h=>h) HS.out (fun w' hS=>?_) ?_
 ·(obtain⟨y0, -⟩:=rn_cells (hS.blk hrl HX0.out (by decide) (by decide));go_simp)
 refine wpAnyH_ready (rs:=[4]) (by kernel_rfl) (by simp) ?_
 refine AllReadyH.cons rfl (fun K hK=>?_) AllReadyH.nil
 go_simp
 refine HC1.out.mono ?_
 rintro e w1 ⟨rfl,h1,st1⟩
 have HT1:=hide (HS.out.trans st1)
 refine hK.out _ _ HT1.out (fun _=>?_)
 clear hK K
 have HX1:=hide ((HS.out.trans st1).blk hrl HX0.out (by decide) (by decide))
 have HC2:=hide (newL_at h1 l1 (by have e0:=HN0.out;have e1:=HN1.out;have e2:=HN2.out;have:=HS0.out.1;have:=HS0.out.2.1;have:=HS0.out.2.2;(try simp only[z8]);omega) (by have e0:=HN0.out;have e1:=HN1.out;have e2:=HN2.out;have:=HS0.out.1;have:=HS0.out.2.1;have:=HS0.out.2.2;(try simp only[z1,z2,z3,z4,z5,z6,z7,z8,z9,za,zb,zc]);omega))
 clear h1 st1
 refine wpAnyH_ready (rs:=[9]) (by kernel_rfl) (by simp) ?_
 refine AllReadyH.cons rfl (fun K hK=>?_) AllReadyH.nil
 go_simp
 refine HC2.out.mono ?_
 rintro e w2 ⟨rfl,h2,st2⟩
 have HT2:=hide (HT1.out.trans st2)
 refine hK.out _ _ HT2.out (fun _=>?_)
 clear hK K
 have HX2:=hide (st2.blk hrl HX1.out (by decide) (by decide))
 have HC3:=hide (newL_at h2 l2 (by have e0:=HN0.out;have e1:=HN1.out;have e2:=HN2.out;have:=HS0.out.1;have:=HS0.out.2.1;have:=HS0.out.2.2;(try simp only[z8]);omega) (by have e0:=HN0.out;have e1:=HN1.out;have e2:=HN2.out;have:=HS0.out.1;have:=HS0.out.2.1;have:=HS0.out.2.2;(try simp only[z1,z2,z3,z4,z5,z6,z7,z8,z9,za,zb,zc]);omega))
 clear h2 st2
 refine wpAnyH_ready (rs:=[14]) (by kernel_rfl) (by simp) ?_
 refine AllReadyH.cons rfl (fun K hK=>?_) AllReadyH.nil
 go_simp
 refine HC3.out.mono ?_
 rintro e w3 ⟨rfl,h3,st3⟩
 have HT3:=hide (HT2.out.trans st3)
 refine hK.out _ _ HT3.out (fun _=>?_)
 clear hK K
 have HX3:=hide (st3.blk hrl HX2.out (by decide) (by decide))
 refine takeH 15 (.int .i64 (l:Int)) rfl (fun _ _ _ h=>h) HT3.out (fun w' hS=>?_) ?_
 ·go_simp
 refine takeH 16 (.int .i64 (l1:Int)) rfl (fun _ _ _ h=>h) HT3.out (fun w' hS=>?_) ?_
 ·go_simp
 refine takeH 17 (.int .i64 (l2:Int)) rfl (fun _ _ _ h=>h) HT3.out (fun w' hS=>?_) ?_
 ·go_simp
 refine wpAnyH_done (by kernel_rfl) ?_ _
 clear HC1 HC2 HC3 HT1 HT2 HX0 HX1 HX2 HM0 HS
 obtain⟨r0,r3,r5,r6,r7,r9,r10,r11,r12⟩:=rn_cells HX3.out
 have hlt3:=h3.lt
 have hd3:=h3.keep (drew1 w3)
 have HD3:=hide (Step.of_below (drew1 w3) hlt3)
 have HC4:=hide (add0 hd3 9 dn 0 0 0 false false (by have e0:=HN0.out;have e1:=HN1.out;have e2:=HN2.out;have:=HS0.out.1;have:=HS0.out.2.1;have:=HS0.out.2.2;(try simp only[z7]);omega))
 clear h3 st3 hd3 hlt3
 go_upto_region 2 with fail
 go_still_tail 9,(by kernel_rfl)
 go_wp2_with fail
 refine HC4.out.mono ?_
 rintro e w4 ⟨rfl,h4,st4⟩
 replace st4:=HD3.out.trans st4
 clear HD3
 have HT4:=hide (HT3.out.trans st4)
 clear HC4 HT3
 have HX4:=hide (st4.blk hrl HX3.out (by decide) (by decide))
 clear HX3
 clear r0 r3 r5 r6 r7 r9 r10 r11 r12
 obtain⟨r0,r3,r5,r6,r7,r9,r10,r11,r12⟩:=rn_cells HX4.out
 have HC5:=hide (stand_any h4 l (by have e0:=HN0.out;have e1:=HN1.out;have e2:=HN2.out;have:=HS0.out.1;have:=HS0.out.2.1;have:=HS0.out.2.2;(try simp only[z2,z8]);omega))
 clear h4 st4
 go_wp2_with fail
 refine HC5.out.mono ?_
 rintro e w5 ⟨rfl,h5,st5⟩
 have HT5:=hide (HT4.out.trans st5)
 clear HC5 HT4
 have HX5:=hide (st5.blk hrl HX4.out (by decide) (by decide))
 clear HX4
 clear r0 r3 r5 r6 r7 r9 r10 r11 r12
 obtain⟨r0,r3,r5,r6,r7,r9,r10,r11,r12⟩:=rn_cells HX5.out
 have hlt5:=h5.lt
 have hd:=Step.of_below (drew1 w5) hlt5
 replace h5:=h5.keep (drew1 w5)
 have HTd:=hide (HT5.out.trans hd)
 have HXd:=hide (hd.blk hrl HX5.out (by decide) (by decide))
 have bq:(n.least==n.most)=false:=by simpa using q1
 go_upto_region 4 with fail
 go_region
 obtain⟨wd,hwd⟩:=named w5.drew
 rw[← hwd]at h5 HTd HXd ⊢
 clear hwd r0 r3 r5 r6 r7 r9 r10 r11 r12 hlt5 hd HT5 HX5 st5
 have HT5:=hide HTd.out
 have HX5:=hide HXd.out
 have st5:True:=trivial
 clear HTd HXd
 obtain⟨r0,r3,r5,r6,r7,r9,r10,r11,r12⟩:=rn_cells HX5.out
 have HC6:=hide (choice_any h5 rb hrl n true wb dn fl l1 l2 HX5.out (by have qx:=HFL.out;have e0:=HN0.out;have e1:=HN1.out;have e2:=HN2.out;have:=HS0.out.1;have:=HS0.out.2.1;have:=HS0.out.2.2;(try simp only[z2,z8,zb]);omega) HF2.out)
 clear h5 st5
 go_wp2_with fail
 refine HC6.out.mono ?_
 rintro e w6 ⟨rfl,h6,st6⟩
 have HT6:=hide (HT5.out.trans st6)
 clear HC6 HT5
 have HX6:=hide (st6.blk hrl HX5.out (by decide) (by decide))
 clear HX5
 clear r0 r3 r5 r6 r7 r9 r10 r11 r12
 obtain⟨r0,r3,r5,r6,r7,r9,r10,r11,r12⟩:=rn_cells HX6.out
 have HC7:=hide (stand_any h6 l1 (by have e0:=HN0.out;have e1:=HN1.out;have e2:=HN2.out;have:=HS0.out.1;have:=HS0.out.2.1;have:=HS0.out.2.2;have:=HF2.out.1;have:=HF2.out.2.1;have:=HF2.out.2.2;have qHU2:=HU2.out.lab;have rHU2:=HU2.out.cnt;(try simp only[z2,z8,zb]at qHU2);(try simp only[z3,z9,zc]at rHU2);(try simp only[z1,z2,z3,z4,z5,z6,z7,z8,z9,za,zb,zc]);omega))
 clear h6 st6
 go_wp2_with fail
 refine HC7.out.mono ?_
 rintro e w7 ⟨rfl,h7,st7⟩
 have HT7:=hide (HT6.out.trans st7)
 clear HC7 HT6
 have HX7:=hide (st7.blk hrl HX6.out (by decide) (by decide))
 clear HX6
 clear r0 r3 r5 r6 r7 r9 r10 r11 r12
 obtain⟨r0,r3,r5,r6,r7,r9,r10,r11,r12⟩:=rn_cells HX7.out
 have HC8:=hide (round_any h7 rb hrl n v x true wb dn fl HX7.out HKA.out HKL.out (fun W hW=>HK.out W (HT7.out.trans hW)) f HUf.out (fun W s hW hM hh=>HF.out W s (HT7.out.trans hW) hM hh) HF4.out)
 clear h7 st7
 go_wp2_with fail
 refine HC8.out.mono ?_
 rintro e w8 ⟨rfl,h8,st8⟩
 have HT8:=hide (HT7.out.trans st8)
 clear HC8 HT7
 have HX8:=hide (st8.blk hrl HX7.out (by decide) (by decide))
 clear HX7
 clear r0 r3 r5 r6 r7 r9 r10 r11 r12
 obtain⟨r0,r3,r5,r6,r7,r9,r10,r11,r12⟩:=rn_cells HX8.out
 have hlt8:=h8.lt
 have hd8:=h8.keep (drew1 w8)
 have HD8:=hide (Step.of_below (drew1 w8) hlt8)
 have HC9:=hide (add0 hd8 10 dn l 0 0 false false (by have e0:=HN0.out;have e1:=HN1.out;have e2:=HN2.out;have:=HS0.out.1;have:=HS0.out.2.1;have:=HS0.out.2.2;have:=HF2.out.1;have:=HF2.out.2.1;have:=HF2.out.2.2;have:=HF4.out.1;have:=HF4.out.2.1;have:=HF4.out.2.2;have qHU2:=HU2.out.lab;have rHU2:=HU2.out.cnt;(try simp only[z2,z8,zb]at qHU2);(try simp only[z3,z9,zc]at rHU2);have qHU4:=HU4.out.lab;have rHU4:=HU4.out.cnt;(try simp only[zb]at qHU4);(try simp only[zc]at rHU4);(try simp only[z1,z2,z3,z4,z5,z6,z7,z8,z9,za,zb,zc]);omega))
 clear h8 st8 hd8 hlt8
 go_upto_region 9 with fail
 go_still_tail 16,(by kernel_rfl)
 go_wp2_with fail
 refine HC9.out.mono ?_
 rintro e w9 ⟨rfl,h9,st9⟩
 replace st9:=HD8.out.trans st9
 clear HD8
 have HT9:=hide (HT8.out.trans st9)
 clear HC9 HT8
 have HX9:=hide (st9.blk hrl HX8.out (by decide) (by decide))
 clear HX8
 clear r0 r3 r5 r6 r7 r9 r10 r11 r12
 obtain⟨r0,r3,r5,r6,r7,r9,r10,r11,r12⟩:=rn_cells HX9.out
 have HC10:=hide (add0 h9 2 l 0 0 0 false false (by have e0:=HN0.out;have e1:=HN1.out;have e2:=HN2.out;have:=HS0.out.1;have:=HS0.out.2.1;have:=HS0.out.2.2;have:=HF2.out.1;have:=HF2.out.2.1;have:=HF2.out.2.2;have:=HF4.out.1;have:=HF4.out.2.1;have:=HF4.out.2.2;have qHU2:=HU2.out.lab;have rHU2:=HU2.out.cnt;(try simp only[z2,z8,zb]at qHU2);(try simp only[z3,z9,zc]at rHU2);have qHU4:=HU4.out.lab;have rHU4:=HU4.out.cnt;(try simp only[zb]at qHU4);(try simp only[zc]at rHU4);(try simp only[z1]);omega))
 clear h9 st9
 go_wp2_with fail
 refine HC10.out.mono ?_
 rintro e w10 ⟨rfl,h10,st10⟩
 have HT10:=hide (HT9.out.trans st10)
 clear HC10 HT9
 have HX10:=hide (st10.blk hrl HX9.out (by decide) (by decide))
 clear HX9
 clear r0 r3 r5 r6 r7 r9 r10 r11 r12
 obtain⟨r0,r3,r5,r6,r7,r9,r10,r11,r12⟩:=rn_cells HX10.out
 have HC11:=hide (stand_any h10 l2 (by have e0:=HN0.out;have e1:=HN1.out;have e2:=HN2.out;have:=HS0.out.1;have:=HS0.out.2.1;have:=HS0.out.2.2;have:=HF2.out.1;have:=HF2.out.2.1;have:=HF2.out.2.2;have:=HF4.out.1;have:=HF4.out.2.1;have:=HF4.out.2.2;have qHU2:=HU2.out.lab;have rHU2:=HU2.out.cnt;(try simp only[z2,z8,zb]at qHU2);(try simp only[z3,z9,zc]at rHU2);have qHU4:=HU4.out.lab;have rHU4:=HU4.out.cnt;(try simp only[zb]at qHU4);(try simp only[zc]at rHU4);(try simp only[z2]);omega))
 clear h10 st10
 go_wp2_with fail
 refine HC11.out.mono ?_
 rintro e w11 ⟨rfl,h11,st11⟩
 have HT11:=hide (HT10.out.trans st11)
 clear HC11 HT10
 have HX11:=hide (st11.blk hrl HX10.out (by decide) (by decide))
 clear HX10
 clear r0 r3 r5 r6 r7 r9 r10 r11 r12
 have HH:=hide h11
 clear h11 st11
 go_wp2
 go_end0
 rw[HE.out]
 exact⟨rfl,HH.out,HT11.out⟩
end Go.Proofs.YtfnndcbjklppeaaGreatDoor.Mk
