import Derived.Test.YtfnndcbjklppeaaGreatDoorVC2
set_option maxHeartbeats 4000000
set_option linter.unusedVariables false
set_option maxRecDepth 100000
open Go.Proofs.Tryz
namespace Go.Proofs.YtfnndcbjklppeaaGreatDoor.Mk
open Go.RowKit
variable {w w' : World} {mb : Nat} {g : Int} {s s' : MS}
theorem round0(h:MB w mb g s)(rb:Nat)(hrl:mb<rb)(n v:NV)(x:Addr)(cb:Bool)(dn fl:Nat)(hr:w.heap[rb]? =some (rnO mb n cb false dn fl))(hka:n.ka=some x)(hkl:n.kl=1)(hK:∀W,Step mb w W→NCells W x v)(f:MS→MS)(hu:Up f)(hf:DoesF mb g w 42 #[.pointer (some ⟨mb,0,none⟩),nvV v] f)(hs:(roundM ⟨n.least,n.most,n.way,cb,false,dn,fl⟩ f s).fits):Calls prog 172 #[.pointer (some ⟨rb,0,none⟩)] w fun e w'=>MkE mb g (roundM ⟨n.least,n.most,n.way,cb,false,dn,fl⟩ f s) w e w':=by
 have HS0:=hide ((round_up _ hu s).fits hs)
 have HT0:=hide (Step.refl mb w)
 have HX0:=hide hr
 have HF:=hide hf
 have HK:=hide hK
 have HKA:=hide hka
 have HKL:=hide hkl
 have HE:Hid (roundM ⟨n.least,n.most,n.way,cb,false,dn,fl⟩ f s=f s):=rfl
 rw[HE.out]at hs ⊢
 have HF1:=hide hs
 clear hr hs hf hK hka hkl hu
 go_enter func172,ntmps172
 obtain⟨r0,r3,r5,r6,r7,r9,r10,r11,r12⟩:=rn_cells HX0.out
 rw[HKA.out,HKL.out]at r3
 obtain⟨k0,k1,k2,k3,k4,k5,k6,k7⟩:=HK.out _ HT0.out
 have hlt0:=h.lt
 have hd0:=h.keep (drew1 w)
 have HD0:=hide (Step.of_below (drew1 w) hlt0)
 have HC1:=hide (HF.out w.drew _ (HT0.out.trans HD0.out) hd0 HF1.out)
 clear h hd0 hlt0
 go_upto_region 1 with fail
 go_still_tail 11,(by kernel_rfl)
 go_wp2_with fail
 refine HC1.out.mono ?_
 rintro e w1 ⟨rfl,h1,st1⟩
 replace st1:=HD0.out.trans st1
 clear HD0
 have HT1:=hide (HT0.out.trans st1)
 clear HC1 HT0
 have HX1:=hide (st1.blk hrl HX0.out (by decide) (by decide))
 clear HX0
 clear r0 r3 r5 r6 r7 r9 r10 r11 r12
 clear k0 k1 k2 k3 k4 k5 k6 k7
 clear HF
 have HH:=hide h1
 clear h1 st1
 go_wp2
 first|go_end0|go_ret
 exact⟨rfl,HH.out,HT1.out⟩
theorem round11(h:MB w mb g s)(rb:Nat)(hrl:mb<rb)(n v:NV)(x:Addr)(cb:Bool)(dn fl:Nat)(hr:w.heap[rb]? =some (rnO mb n cb true dn fl))(hka:n.ka=some x)(hkl:n.kl=1)(hK:∀W,Step mb w W→NCells W x v)(f:MS→MS)(hu:Up f)(hf:DoesF mb g w 42 #[.pointer (some ⟨mb,0,none⟩),nvV v] f)(q1:0<n.least)(hs:(roundM ⟨n.least,n.most,n.way,cb,true,dn,fl⟩ f s).fits):Calls prog 172 #[.pointer (some ⟨rb,0,none⟩)] w fun e w'=>MkE mb g (roundM ⟨n.least,n.most,n.way,cb,true,dn,fl⟩ f s) w e w':=by
 have HS0:=hide ((round_up _ hu s).fits hs)
 have HT0:=hide (Step.refl mb w)
 have HX0:=hide hr
 have HF:=hide hf
 have HK:=hide hK
 have HKA:=hide hka
 have HKL:=hide hkl
 have HE:Hid (roundM ⟨n.least,n.most,n.way,cb,true,dn,fl⟩ f s=(((f (s.newL.add ⟨7,[],(dn:Int),0,0,0,false,false⟩)).add ⟨11,[],(dn:Int),(s.lab.length:Int),0,n.least,false,false⟩).add ⟨12,[],(dn:Int),(fl:Int),0,0,false,false⟩).stand s.lab.length):=by show _=_;unfold roundM;dsimp only;rw[if_pos rfl,if_pos q1]
 have HF1:Hid (f (s.newL.add ⟨7,[],(dn:Int),0,0,0,false,false⟩)).fits:=by have hh:=hs;rw[HE.out]at hh;exact(((le_add _ _).add _).stand _).fits hh
 have HU1:Hid ((s.newL.add ⟨7,[],(dn:Int),0,0,0,false,false⟩).le (f (s.newL.add ⟨7,[],(dn:Int),0,0,0,false,false⟩))):=hu _
 obtain⟨l,hl⟩:=named s.lab.length
 have HN0:=hide hl
 clear hl
 rw[← HN0.out]at HE
 clear hr hs hf hK hka hkl hu
 go_enter func172,ntmps172
 obtain⟨r0,r3,r5,r6,r7,r9,r10,r11,r12⟩:=rn_cells HX0.out
 rw[HKA.out,HKL.out]at r3
 have HC1:=hide (newL_at h l (by have e0:=HN0.out;have:=HS0.out.1;have:=HS0.out.2.1;have:=HS0.out.2.2;(try simp only[z1,z2,z3,z4,z5,z6,z7,z8,z9,za,zb,zc]);omega) (by have e0:=HN0.out;have:=HS0.out.1;have:=HS0.out.2.1;have:=HS0.out.2.2;(try simp only[z1,z2,z3,z4,z5,z6,z7,z8,z9,za,zb,zc]);omega))
 clear h
 go_wp2_with fail
 refine HC1.out.mono ?_
 rintro e w1 ⟨rfl,h1,st1⟩
 have HT1:=hide (HT0.out.trans st1)
 clear HC1 HT0
 have HX1:=hide (st1.blk hrl HX0.out (by decide) (by decide))
 clear HX0
 clear r0 r3 r5 r6 r7 r9 r10 r11 r12
 obtain⟨r0,r3,r5,r6,r7,r9,r10,r11,r12⟩:=rn_cells HX1.out
 rw[HKA.out,HKL.out]at r3
 have hlt1:=h1.lt
 have hd1:=h1.keep (drew1 w1)
 have HD1:=hide (Step.of_below (drew1 w1) hlt1)
 have HC2:=hide (add0 hd1 7 dn 0 0 0 false false (by have e0:=HN0.out;have:=HS0.out.1;have:=HS0.out.2.1;have:=HS0.out.2.2;(try simp only[z7]);omega))
 clear h1 st1 hd1 hlt1
 go_upto_region 3 with fail
 go_still_tail 9,(by kernel_rfl)
 go_wp2_with fail
 refine HC2.out.mono ?_
 rintro e w2 ⟨rfl,h2,st2⟩
 replace st2:=HD1.out.trans st2
 clear HD1
 have HT2:=hide (HT1.out.trans st2)
 clear HC2 HT1
 have HX2:=hide (st2.blk hrl HX1.out (by decide) (by decide))
 clear HX1
 clear r0 r3 r5 r6 r7 r9 r10 r11 r12
 obtain⟨r0,r3,r5,r6,r7,r9,r10,r11,r12⟩:=rn_cells HX2.out
 rw[HKA.out,HKL.out]at r3
 obtain⟨k0,k1,k2,k3,k4,k5,k6,k7⟩:=HK.out _ HT2.out
 have hlt2:=h2.lt
 have hd2:=h2.keep (drew1 w2)
 have HD2:=hide (Step.of_below (drew1 w2) hlt2)
 have HC3:=hide (HF.out w2.drew _ (HT2.out.trans HD2.out) hd2 HF1.out)
 clear h2 st2 hd2 hlt2
 go_upto_region 4 with fail
 go_still_tail 11,(by kernel_rfl)
 go_wp2_with fail
 refine HC3.out.mono ?_
 rintro e w3 ⟨rfl,h3,st3⟩
 replace st3:=HD2.out.trans st3
 clear HD2
 have HT3:=hide (HT2.out.trans st3)
 clear HC3 HT2
 have HX3:=hide (st3.blk hrl HX2.out (by decide) (by decide))
 clear HX2
 clear r0 r3 r5 r6 r7 r9 r10 r11 r12
 clear k0 k1 k2 k3 k4 k5 k6 k7
 clear HF
 obtain⟨r0,r3,r5,r6,r7,r9,r10,r11,r12⟩:=rn_cells HX3.out
 rw[HKA.out,HKL.out]at r3
 have hlt3:=h3.lt
 have hd3:=h3.keep (drew1 w3)
 have HD3:=hide (Step.of_below (drew1 w3) hlt3)
 have HC4:=hide (add0 hd3 11 dn l 0 n.least false false (by have e0:=HN0.out;have:=HS0.out.1;have:=HS0.out.2.1;have:=HS0.out.2.2;have:=HF1.out.1;have:=HF1.out.2.1;have:=HF1.out.2.2;have qHU1:=HU1.out.lab;have rHU1:=HU1.out.cnt;(try simp only[z2,z8]at qHU1);(try simp only[z3,z9]at rHU1);(try simp only[z1,z2,z3,z4,z5,z6,z7,z8,z9,za,zb,zc]);omega))
 clear h3 st3 hd3 hlt3
 go_upto_region 6 with fail
 go_still_tail 15,(by kernel_rfl)
 go_wp2_with fail
 refine HC4.out.mono ?_
 rintro e w4 ⟨rfl,h4,st4⟩
 replace st4:=HD3.out.trans st4
 clear HD3
 have HT4:=hide (HT3.out.trans st4)
 clear HC4 HT3
 have HX4:=hide (st4.blk hrl HX3.out (by decide) (by decide))
 clear HX3
 clear r0 r3 r5 r6 r7 r9 r10 r11 r12
 obtain⟨r0,r3,r5,r6,r7,r9,r10,r11,r12⟩:=rn_cells HX4.out
 rw[HKA.out,HKL.out]at r3
 have hlt4:=h4.lt
 have hd4:=h4.keep (drew1 w4)
 have HD4:=hide (Step.of_below (drew1 w4) hlt4)
 have HC5:=hide (add0 hd4 12 dn fl 0 0 false false (by have e0:=HN0.out;have:=HS0.out.1;have:=HS0.out.2.1;have:=HS0.out.2.2;have:=HF1.out.1;have:=HF1.out.2.1;have:=HF1.out.2.2;have qHU1:=HU1.out.lab;have rHU1:=HU1.out.cnt;(try simp only[z2,z8]at qHU1);(try simp only[z3,z9]at rHU1);(try simp only[z1]);omega))
 clear h4 st4 hd4 hlt4
 go_upto_region 7 with fail
 go_still_tail 13,(by kernel_rfl)
 go_wp2_with fail
 refine HC5.out.mono ?_
 rintro e w5 ⟨rfl,h5,st5⟩
 replace st5:=HD4.out.trans st5
 clear HD4
 have HT5:=hide (HT4.out.trans st5)
 clear HC5 HT4
 have HX5:=hide (st5.blk hrl HX4.out (by decide) (by decide))
 clear HX4
 clear r0 r3 r5 r6 r7 r9 r10 r11 r12
 obtain⟨r0,r3,r5,r6,r7,r9,r10,r11,r12⟩:=rn_cells HX5.out
 rw[HKA.out,HKL.out]at r3
 have HC6:=hide (stand_any h5 l (by have e0:=HN0.out;have:=HS0.out.1;have:=HS0.out.2.1;have:=HS0.out.2.2;have:=HF1.out.1;have:=HF1.out.2.1;have:=HF1.out.2.2;have qHU1:=HU1.out.lab;have rHU1:=HU1.out.cnt;(try simp only[z2,z8]at qHU1);(try simp only[z3,z9]at rHU1);(try simp only[z2]);omega))
 clear h5 st5
 go_wp2_with fail
 refine HC6.out.mono ?_
 rintro e w6 ⟨rfl,h6,st6⟩
 have HT6:=hide (HT5.out.trans st6)
 clear HC6 HT5
 have HX6:=hide (st6.blk hrl HX5.out (by decide) (by decide))
 clear HX5
 clear r0 r3 r5 r6 r7 r9 r10 r11 r12
 have HH:=hide h6
 clear h6 st6
 go_wp2
 go_end0
 rw[HE.out]
 exact⟨rfl,HH.out,HT6.out⟩
theorem round10(h:MB w mb g s)(rb:Nat)(hrl:mb<rb)(n v:NV)(x:Addr)(cb:Bool)(dn fl:Nat)(hr:w.heap[rb]? =some (rnO mb n cb true dn fl))(hka:n.ka=some x)(hkl:n.kl=1)(hK:∀W,Step mb w W→NCells W x v)(f:MS→MS)(hu:Up f)(hf:DoesF mb g w 42 #[.pointer (some ⟨mb,0,none⟩),nvV v] f)(q1:¬0<n.least)(hs:(roundM ⟨n.least,n.most,n.way,cb,true,dn,fl⟩ f s).fits):Calls prog 172 #[.pointer (some ⟨rb,0,none⟩)] w fun e w'=>MkE mb g (roundM ⟨n.least,n.most,n.way,cb,true,dn,fl⟩ f s) w e w':=by
 have HS0:=hide ((round_up _ hu s).fits hs)
 have HT0:=hide (Step.refl mb w)
 have HX0:=hide hr
 have HF:=hide hf
 have HK:=hide hK
 have HKA:=hide hka
 have HKL:=hide hkl
 have HE:Hid (roundM ⟨n.least,n.most,n.way,cb,true,dn,fl⟩ f s=((f (s.newL.add ⟨7,[],(dn:Int),0,0,0,false,false⟩)).add ⟨12,[],(dn:Int),(fl:Int),0,0,false,false⟩).stand s.lab.length):=by show _=_;unfold roundM;dsimp only;rw[if_pos rfl,if_neg q1]
 have HF1:Hid (f (s.newL.add ⟨7,[],(dn:Int),0,0,0,false,false⟩)).fits:=by have hh:=hs;rw[HE.out]at hh;exact((le_add _ _).stand _).fits hh
 have HU1:Hid ((s.newL.add ⟨7,[],(dn:Int),0,0,0,false,false⟩).le (f (s.newL.add ⟨7,[],(dn:Int),0,0,0,false,false⟩))):=hu _
 obtain⟨l,hl⟩:=named s.lab.length
 have HN0:=hide hl
 clear hl
 rw[← HN0.out]at HE
 clear hr hs hf hK hka hkl hu
 go_enter func172,ntmps172
 obtain⟨r0,r3,r5,r6,r7,r9,r10,r11,r12⟩:=rn_cells HX0.out
 rw[HKA.out,HKL.out]at r3
 have HC1:=hide (newL_at h l (by have e0:=HN0.out;have:=HS0.out.1;have:=HS0.out.2.1;have:=HS0.out.2.2;(try simp only[z1,z2,z3,z4,z5,z6,z7,z8,z9,za,zb,zc]);omega) (by have e0:=HN0.out;have:=HS0.out.1;have:=HS0.out.2.1;have:=HS0.out.2.2;(try simp only[z1,z2,z3,z4,z5,z6,z7,z8,z9,za,zb,zc]);omega))
 clear h
 go_wp2_with fail
 refine HC1.out.mono ?_
 rintro e w1 ⟨rfl,h1,st1⟩
 have HT1:=hide (HT0.out.trans st1)
 clear HC1 HT0
 have HX1:=hide (st1.blk hrl HX0.out (by decide) (by decide))
 clear HX0
 clear r0 r3 r5 r6 r7 r9 r10 r11 r12
 obtain⟨r0,r3,r5,r6,r7,r9,r10,r11,r12⟩:=rn_cells HX1.out
 rw[HKA.out,HKL.out]at r3
 have hlt1:=h1.lt
 have hd1:=h1.keep (drew1 w1)
 have HD1:=hide (Step.of_below (drew1 w1) hlt1)
 have HC2:=hide (add0 hd1 7 dn 0 0 0 false false (by have e0:=HN0.out;have:=HS0.out.1;have:=HS0.out.2.1;have:=HS0.out.2.2;(try simp only[z7]);omega))
 clear h1 st1 hd1 hlt1
 go_upto_region 3 with fail
 go_still_tail 9,(by kernel_rfl)
 go_wp2_with fail
 refine HC2.out.mono ?_
 rintro e w2 ⟨rfl,h2,st2⟩
 replace st2:=HD1.out.trans st2
 clear HD1
 have HT2:=hide (HT1.out.trans st2)
 clear HC2 HT1
 have HX2:=hide (st2.blk hrl HX1.out (by decide) (by decide))
 clear HX1
 clear r0 r3 r5 r6 r7 r9 r10 r11 r12
 obtain⟨r0,r3,r5,r6,r7,r9,r10,r11,r12⟩:=rn_cells HX2.out
 rw[HKA.out,HKL.out]at r3
 obtain⟨k0,k1,k2,k3,k4,k5,k6,k7⟩:=HK.out _ HT2.out
 have hlt2:=h2.lt
 have hd2:=h2.keep (drew1 w2)
 have HD2:=hide (Step.of_below (drew1 w2) hlt2)
 have HC3:=hide (HF.out w2.drew _ (HT2.out.trans HD2.out) hd2 HF1.out)
 clear h2 st2 hd2 hlt2
 go_upto_region 4 with fail
 go_still_tail 11,(by kernel_rfl)
 go_wp2_with fail
 refine HC3.out.mono ?_
 rintro e w3 ⟨rfl,h3,st3⟩
 replace st3:=HD2.out.trans st3
 clear HD2
 have HT3:=hide (HT2.out.trans st3)
 clear HC3 HT2
 have HX3:=hide (st3.blk hrl HX2.out (by decide) (by decide))
 clear HX2
 clear r0 r3 r5 r6 r7 r9 r10 r11 r12
 clear k0 k1 k2 k3 k4 k5 k6 k7
 clear HF
 obtain⟨r0,r3,r5,r6,r7,r9,r10,r11,r12⟩:=rn_cells HX3.out
 rw[HKA.out,HKL.out]at r3
 have hlt3:=h3.lt
 have hd3:=h3.keep (drew1 w3)
 have HD3:=hide (Step.of_below (drew1 w3) hlt3)
 have HC4:=hide (add0 hd3 12 dn fl 0 0 false false (by have e0:=HN0.out;have:=HS0.out.1;have:=HS0.out.2.1;have:=HS0.out.2.2;have:=HF1.out.1;have:=HF1.out.2.1;have:=HF1.out.2.2;have qHU1:=HU1.out.lab;have rHU1:=HU1.out.cnt;(try simp only[z2,z8]at qHU1);(try simp only[z3,z9]at rHU1);(try simp only[z1,z2,z3,z4,z5,z6,z7,z8,z9,za,zb,zc]);omega))
 clear h3 st3 hd3 hlt3
 go_upto_region 7 with fail
 go_still_tail 13,(by kernel_rfl)
 go_wp2_with fail
 refine HC4.out.mono ?_
 rintro e w4 ⟨rfl,h4,st4⟩
 replace st4:=HD3.out.trans st4
 clear HD3
 have HT4:=hide (HT3.out.trans st4)
 clear HC4 HT3
 have HX4:=hide (st4.blk hrl HX3.out (by decide) (by decide))
 clear HX3
 clear r0 r3 r5 r6 r7 r9 r10 r11 r12
 obtain⟨r0,r3,r5,r6,r7,r9,r10,r11,r12⟩:=rn_cells HX4.out
 rw[HKA.out,HKL.out]at r3
 have HC5:=hide (stand_any h4 l (by have e0:=HN0.out;have:=HS0.out.1;have:=HS0.out.2.1;have:=HS0.out.2.2;have:=HF1.out.1;have:=HF1.out.2.1;have:=HF1.out.2.2;have qHU1:=HU1.out.lab;have rHU1:=HU1.out.cnt;(try simp only[z2,z8]at qHU1);(try simp only[z3,z9]at rHU1);(try simp only[z2]);omega))
 clear h4 st4
 go_wp2_with fail
 refine HC5.out.mono ?_
 rintro e w5 ⟨rfl,h5,st5⟩
 have HT5:=hide (HT4.out.trans st5)
 clear HC5 HT4
 have HX5:=hide (st5.blk hrl HX4.out (by decide) (by decide))
 clear HX4
 clear r0 r3 r5 r6 r7 r9 r10 r11 r12
 have HH:=hide h5
 clear h5 st5
 go_wp2
 go_end0
 rw[HE.out]
 exact⟨rfl,HH.out,HT5.out⟩
theorem round_any(h:MB w mb g s)(rb:Nat)(hrl:mb<rb)(n v:NV)(x:Addr)(cb wb:Bool)(dn fl:Nat)(hr:w.heap[rb]? =some (rnO mb n cb wb dn fl))(hka:n.ka=some x)(hkl:n.kl=1)(hK:∀W,Step mb w W→NCells W x v)(f:MS→MS)(hu:Up f)(hf:DoesF mb g w 42 #[.pointer (some ⟨mb,0,none⟩),nvV v] f)(hs:(roundM ⟨n.least,n.most,n.way,cb,wb,dn,fl⟩ f s).fits):Calls prog 172 #[.pointer (some ⟨rb,0,none⟩)] w fun e w'=>MkE mb g (roundM ⟨n.least,n.most,n.way,cb,wb,dn,fl⟩ f s) w e w':=by
 cases wb
 ·exact round0 h rb hrl n v x cb dn fl hr hka hkl hK f hu hf hs
 ·by_cases q1:0<n.least
  ·exact round11 h rb hrl n v x cb dn fl hr hka hkl hK f hu hf q1 hs
  ·exact round10 h rb hrl n v x cb dn fl hr hka hkl hK f hu hf q1 hs
end Go.Proofs.YtfnndcbjklppeaaGreatDoor.Mk
