import Derived.Test.YtfnndcbjklppeaaGreatDoorVF2
import Derived.Test.YtfnndcbjklppeaaGreatDoorVG2
set_option linter.unusedVariables false
set_option maxRecDepth 100000
set_option maxHeartbeats 8000000
open Go.Proofs.Tryz
namespace Go.Proofs.YtfnndcbjklppeaaGreatDoor.Mk
open Go.RowKit
variable {w w' : World} {mb : Nat} {g : Int} {s s' : MS} {ov lv : Value} {L : OpL}
theorem all_any(h:MB w mb g s)(rb:Nat)(hrl:mb<rb)(n v:NV)(x:Addr)(cb wb:Bool)(dn fl:Nat)(hr:w.heap[rb]? =some (rnO mb n cb wb dn fl))(hka:n.ka=some x)(hkl:n.kl=1)(hK:∀W,Step mb w W→NCells W x v)(f:MS→MS)(hu:Up f)(hf:DoesF mb g w 42 #[.pointer (some ⟨mb,0,none⟩),nvV v] f)(hfl:fl<s.lab.length)(hcb:cb=(decide (0<n.least)||decide (0<n.most)))(hl:0≤n.least)(hm:n.most= -1∨n.least≤n.most)(hm0:n.most≠0)(hs:(allM ⟨n.least,n.most,n.way,cb,wb,dn,fl⟩ f s).fits):Calls prog 148 #[.pointer (some ⟨rb,0,none⟩)] w fun e w'=>MkE mb g (allM ⟨n.least,n.most,n.way,cb,wb,dn,fl⟩ f s) w e w':=by
 cases cb
 ·have h1:¬0<n.least:=fun h=>by rw[decide_eq_true h]at hcb;cases hcb
  have h2:¬0<n.most:=fun h=>by rw[decide_eq_true h,Bool.or_true]at hcb;cases hcb
  exact all001 h rb hrl n v x wb dn fl hr hka hkl hK f hu hf hfl (by omega) (by omega) hs
 ·by_cases q1:n.least=n.most
  ·exact all110 h rb hrl n v x wb dn fl hr hka hkl hK f hu hf hfl q1 (by omega) (by omega) hs
  ·by_cases q2:n.most<0
   ·exact all101 h rb hrl n v x wb dn fl hr hka hkl hK f hu hf hfl q1 q2 hs
   ·exact all100 h rb hrl n v x wb dn fl hr hka hkl hK f hu hf hfl q1 q2 (by omega) hs
theorem MV.other{rb:Nat}{cs:Array Value}{e:TypeId}{fr:Nat×Nat}(h:MV w mb g s ov lv L)(hr:w.heap[rb]? =some (.cells cs e fr))(hm:rb≠mb)(e1:e≠52)(e2:e≠3)(e3:e≠101)(i:Nat)(v:Value):MV (w.setCell ⟨rb,i,none⟩ v) mb g s ov lv L:=by
 have key:∀{t:TypeId} {b:Nat} {c:Array Value},t≠e→w.heap[b]? =some (.cells c t (0,0))→(w.setCell ⟨rb,i,none⟩ v).heap[b]? =some (.cells c t (0,0)):=fun {t b c} ht hb=>by
  rw[Below.heap_setCell _ _ _ _ (by
   show b≠rb
   rintro rfl
   rw[hr]at hb
   cases hb
   exact ht rfl)]
  exact hb
 refine⟨?_,own_oth h.ops fun b _ _ c hb=>key (Ne.symm e1) hb,own_oth h.lab fun b _ _ c hb=>key (Ne.symm e2) hb,h.str,fun y hy=>own_oth (h.set y hy) fun b _ _ c hb=>key (Ne.symm e3) hb⟩
 rw[Below.heap_setCell _ _ _ _ (by show mb≠rb;exact Ne.symm hm)]
 exact h.box
theorem MB.other{rb:Nat}{cs:Array Value}{e:TypeId}{fr:Nat×Nat}(h:MB w mb g s)(hr:w.heap[rb]? =some (.cells cs e fr))(hm:rb≠mb)(e1:e≠52)(e2:e≠3)(e3:e≠101)(i:Nat)(v:Value):MB (w.setCell ⟨rb,i,none⟩ v) mb g s:=by
 obtain⟨a,b,c,h⟩:=h
 exact⟨a,b,c,h.other hr hm e1 e2 e3 i v⟩
theorem Step.other{W:World}{rb:Nat}(h:Step mb w W)(hr:w.heap.size≤rb)(hm:mb<rb)(i:Nat)(v:Value):Step mb w (W.setCell ⟨rb,i,none⟩ v):=
 ⟨h.os,h.tape,h.output,by simpa[World.setCell]using h.size,fun k hk=>by rw[Below.heap_setCell _ _ _ _ (by show k≠rb;omega)];exact h.low k hk,fun k h1 h2 cs e fr hc n1 n2=>by rw[Below.heap_setCell _ _ _ _ (by show k≠rb;omega)];exact h.oth k h1 h2 cs e fr hc n1 n2⟩
theorem rn_watch{rb:Nat}{n:NV}{cb wb:Bool}{dn fl:Nat}(h:w.heap[rb]? =some (rnO mb n cb wb dn fl))(b:Bool):(w.setCell ⟨rb,10,none⟩ (.bool b)).heap[rb]? =some (rnO mb n cb b dn fl):=by
 rw[set_oneQ h];rfl
theorem rn_done{rb:Nat}{n:NV}{cb wb:Bool}{dn fl:Nat}(h:w.heap[rb]? =some (rnO mb n cb wb dn fl))(c:Nat):(w.setCell ⟨rb,11,none⟩ (.int .i64 (c:Int))).heap[rb]? =some (rnO mb n cb wb c fl):=by
 rw[set_oneQ h];rfl
theorem rn_free{rb:Nat}{n:NV}{cb wb:Bool}{dn fl:Nat}(h:w.heap[rb]? =some (rnO mb n cb wb dn fl))(i:Nat):w.frozen? ⟨rb,i,none⟩=false:=by simp[World.frozen?,h]
variable {w w' : World} {mb : Nat} {g : Int} {s s' : MS}
theorem roundsA0(h:MB w mb g s)(n v:NV)(x:Addr)(F:FT)(hka:n.ka=some x)(hkl:n.kl=1)(hK:∀W,Step mb w W→NCells W x v)(hF:∀W,Step mb w W→Calls prog 64 #[nvV v] W fun e w'=>e=.returned (ftV F)∧Below W.heap.size W w')(f:MS→MS)(hu:Up f)(hf:DoesF mb g w 42 #[.pointer (some ⟨mb,0,none⟩),nvV v] f)(hl:0≤n.least)(hm:n.most= -1∨n.least≤n.most)(hm0:n.most≠0)(q1:0<n.least)(q3:n.least=n.most)(hs:(roundsM n.least n.most n.way F.least f s).fits):Calls prog 112 #[.pointer (some ⟨mb,0,none⟩),nvV n] w fun e w'=>MkE mb g (roundsM n.least n.most n.way F.least f s) w e w':=by
 have HCB:Hid (true=(decide (0<n.least)||decide (0<n.most))):=by show _=_;simp[q1]
 have HWB:Hid (false=(!decide (n.least=n.most)&&decide (F.least=0))):=by show _=_;simp[q3]
 have HE:Hid (roundsM n.least n.most n.way F.least f s=allM ⟨n.least,n.most,n.way,true,false,s.cnt,s.lab.length⟩ f s.newL.newC):=by show _=_;unfold roundsM;dsimp only;rw[← HCB.out, ←HWB.out];rfl
 have HS0:=hide ((rounds_up _ _ _ _ hu s).fits hs)
 have HF:=hide hf
 have HK:=hide hK
 have HUf:=hide hu
 have HKA:=hide hka
 have HKL:=hide hkl
 have hlt:=h.lt
 have HFA:Hid (allM ⟨n.least,n.most,n.way,true,false,s.cnt,s.lab.length⟩ f s.newL.newC).fits:=by have hh:=hs;rw[HE.out]at hh;exact hh
 obtain⟨c,hc⟩:=named s.cnt
 have HN0:=hide hc
 clear hc
 obtain⟨l,hl⟩:=named s.lab.length
 have HN1:=hide hl
 clear hl
 rw[← HN1.out, ←HN0.out]at HE HFA
 have HFc:=hide hF
 have HB1:=hide (show 0≤n.least from hl)
 have HB2:=hide hm
 have HB3:=hide hm0
 obtain⟨W0,hW0⟩:=named (w.alloc (nvO n))
 have hb0:Below w.heap.size w W0:=by rw[hW0];exact allocB _ _
 have hx0:W0.heap[w.heap.size]? =some (nvO n):=by rw[hW0];exact at_new _ _
 have h0:=h.keep hb0
 have HT0:=hide (Step.of_below hb0 hlt)
 obtain⟨nb,hnb⟩:=named w.heap.size
 have hnl:mb<nb:=by omega
 have HNB:=hide hnb
 rw[← hnb]at hx0
 have HX0:=hide hx0
 simp only[nvO]at hW0
 have HS:Hid (Step mb W0 W0.drew):=Step.of_below (drew1 W0) h0.lt
 have HC1:=hide (newL_at (h0.keep (drew1 W0)) l (by have e0:=HN0.out;have e1:=HN1.out;have:=HS0.out.1;have:=HS0.out.2.1;have:=HS0.out.2.2;(try simp only[z1,z2,z3,z4,z5,z6,z7,z8,z9,za,zb,zc]);omega) (by have e0:=HN0.out;have e1:=HN1.out;have:=HS0.out.1;have:=HS0.out.2.1;have:=HS0.out.2.2;(try simp only[z1,z2,z3,z4,z5,z6,z7,z8,z9,za,zb,zc]);omega))
 have hw0:W0.heap.size=nb+1:=by rw[hW0,hnb];simp
 have HW0:=hide hw0
 have b3:(n.least==n.most)=true:=by simpa using q3
 have b5:(n.least !=n.most)=false:=by simpa using q3
 clear hf hs hu h hK hx0 hb0 hka hkl hF h0 hl hm hm0 hw0 q3
 go_enter func112,ntmps112
 go_upto_region 1 with fail
 rw[← hW0, ←hnb]
 clear hW0 hnb
 refine wp_region_held (S:=fun w'=>Step mb W0 w') (by kernel_rfl) ?_
 change wpAnyH _ _ _ _ _ _ _ _ (World.drew _)
 refine takeH 0 (.pointer (some ⟨mb,0,none⟩)) rfl (fun _ _ _ h=>h) HS.out (fun w' hS=>?_) ?_
 ·go_simp
 refine takeH 1 (nvV n) rfl (fun _ _ _ h=>h) HS.out (fun w' hS=>?_) ?_
 ·(obtain⟨d0,d1,d2,d3,d4,d5,d6,d7⟩:=nv_cells (hS.blk hnl HX0.out (by decide) (by decide));simp only[Nat.zero_add]at d0 d1 d2 d3 d4 d5 d6 d7;go_simp)
 refine takeH 2 (.pointer (some ⟨nb,4,none⟩)) rfl (fun _ _ _ h=>h) HS.out (fun w' hS=>?_) ?_
 ·go_simp
 refine takeH 3 (.int .i64 n.least) rfl (fun _ _ _ h=>h) HS.out (fun w' hS=>?_) ?_
 ·(obtain⟨d0,d1,d2,d3,d4,d5,d6,d7⟩:=nv_cells (hS.blk hnl HX0.out (by decide) (by decide));simp only[Nat.zero_add]at d0 d1 d2 d3 d4 d5 d6 d7;go_simp)
 refine takeH 4 (.bool true) rfl (fun _ _ _ h=>h) HS.out (fun w' hS=>?_) ?_
 ·go_simp
 refine takeH 5 (.bool true) rfl (fun _ _ _ h=>h) HS.out (fun w' hS=>?_) ?_
 ·go_simp
 refine wpAnyH_take (i:=6) (v:=undef) rfl (by kernel_rfl) (by kernel_rfl) (by kernel_rfl) (fun _ _ _ h=>h) (Or.inr ⟨by kernel_rfl,rfl⟩) HS.out ?_
 refine wpAnyH_take (i:=7) (v:=undef) rfl (by kernel_rfl) (by kernel_rfl) (by kernel_rfl) (fun _ _ _ h=>h) (Or.inr ⟨by kernel_rfl,rfl⟩) HS.out ?_
 refine wpAnyH_take (i:=8) (v:=undef) rfl (by kernel_rfl) (by kernel_rfl) (by kernel_rfl) (fun _ _ _ h=>h) (Or.inr ⟨by kernel_rfl,rfl⟩) HS.out ?_
 refine takeH 9 (.bool true) rfl (fun _ _ _ h=>h) HS.out (fun w' hS=>?_) ?_
 ·go_simp
 refine takeH 10 (.pointer (some ⟨mb,0,none⟩)) rfl (fun _ _ _ h=>h) HS.out (fun w' hS=>?_) ?_
 ·go_simp
 refine wpAnyH_ready (rs:=[11]) (by kernel_rfl) (by simp) ?_
 refine AllReadyH.cons rfl (fun K hK=>?_) AllReadyH.nil
 go_simp
 refine HC1.out.mono ?_
 rintro e w1 ⟨rfl,h1,st1⟩
 have HTx:=hide (HS.out.trans st1)
 refine hK.out _ _ HTx.out (fun _=>?_)
 clear hK K
 have HT1:=hide (HT0.out.trans HTx.out)
 have HX1:=hide (HTx.out.blk hnl HX0.out (by decide) (by decide))
 refine takeH 12 (.agg #[.pointer (some ⟨mb,0,none⟩),.int .i64 n.kind,.slice n.sa n.sl n.sc,.slice n.ka n.kl n.kc,.int .i64 n.num,.int .i64 n.least,.int .i64 n.most,.int .i64 n.way,.bool n.fold,.bool true,.bool false,.int .i64 0,.int .i64 (l:Int)]) rfl (fun _ _ _ h=>h) HTx.out (fun w' hS=>?_) ?_
 ·go_simp
 refine wpAnyH_ready (rs:=[13]) (by kernel_rfl) (by simp) ?_
 refine AllReadyH.cons rfl (fun K hK=>?_) AllReadyH.nil
 go_simp
 obtain⟨W2,hW2⟩:=named (w1.alloc (rnO mb n true false 0 l))
 have hb2:Below w1.heap.size w1 W2:=by rw[hW2];exact allocB _ _
 have hy2:W2.heap[w1.heap.size]? =some (rnO mb n true false 0 l):=by rw[hW2];exact at_new _ _
 have hs2:=Step.of_below hb2 h1.lt
 have h2:=h1.keep hb2
 have HT2:=hide (HT1.out.trans hs2)
 have HTy:=hide (HTx.out.trans hs2)
 have HX2:=hide (hs2.blk hnl HX1.out (by decide) (by decide))
 obtain⟨rb,hrb⟩:=named w1.heap.size
 have hrl:mb<rb:=by have:=h1.lt;omega
 have HRG:Hid (nb<rb):=by have h5:=HTx.out.size;have h6:=HW0.out;show nb<rb;omega
 rw[← hrb]at hy2
 have HY2:=hide hy2
 simp only[rnO]at hW2
 rw[show ((0:Nat):Int)=0 from rfl]at hW2
 rw[← hW2, ←hrb]
 refine hK.out _ _ HTy.out (fun _=>?_)
 clear hK K
 refine takeH 14 (.pointer (some ⟨rb,0,none⟩)) rfl (fun _ _ _ h=>h) HTy.out (fun w' hS=>?_) ?_
 ·go_simp
 refine wpAnyH_done (by kernel_rfl) ?_ _
 clear HC1 HT0 HT1 HTx HTy HX0 HX1 h1 st1 hb2 hs2 hW2 hrb hy2 HS
 obtain⟨d0,d1,d2,d3,d4,d5,d6,d7⟩:=nv_cells HX2.out
 simp only[Nat.zero_add]at d0 d1 d2 d3 d4 d5 d6 d7
 rw[HKA.out,HKL.out]at d2
 obtain⟨W3,hW3⟩:=named (W2.setCell ⟨rb,10,none⟩ (.bool false))
 have fz:=rn_free HY2.out
 obtain⟨r0,r3,r5,r6,r7,r9,r10,r11,r12⟩:=rn_cells HY2.out
 have HM3:Hid (MB W3 mb g s.newL):=by show MB _ _ _ _;rw[hW3];exact h2.other HY2.out (by omega) (by decide) (by decide) (by decide) _ _
 have HT3:Hid (Step mb w W3):=by show Step _ _ _;rw[hW3];exact HT2.out.other (by have:=HRG.out;have:=HNB.out;omega) hrl _ _
 have HY3:Hid (W3.heap[rb]? =some (rnO mb n true false 0 l)):=by show _=_;rw[hW3];exact rn_watch HY2.out _
 go_upto_region 3 with fail
 rw[← hW3]
 clear hW3 fz r0 r3 r5 r6 r7 r9 r10 r11 r12 d0 d1 d2 d3 d4 d5 d6 d7 h2 HT2 HY2 HX2
 obtain⟨r0,r3,r5,r6,r7,r9,r10,r11,r12⟩:=rn_cells HY3.out
 have HC2:=hide (newC_at HM3.out c (by have e0:=HN0.out;have e1:=HN1.out;have:=HS0.out.1;have:=HS0.out.2.1;have:=HS0.out.2.2;(try simp only[z9]);omega) (by have e0:=HN0.out;have e1:=HN1.out;have:=HS0.out.1;have:=HS0.out.2.1;have:=HS0.out.2.2;(try simp only[z1,z2,z3,z4,z5,z6,z7,z8,z9,za,zb,zc]);omega))
 go_wp2_with fail
 refine HC2.out.mono ?_
 rintro e w4 ⟨rfl,h4,st4⟩
 have HY4:=hide (st4.blk hrl HY3.out (by decide) (by decide))
 have HT4:=hide (HT3.out.trans st4)
 clear HC2 HM3 HT3 HY3 st4 r0 r3 r5 r6 r7 r9 r10 r11 r12
 obtain⟨W5,hW5⟩:=named (w4.setCell ⟨rb,11,none⟩ (.int .i64 (c:Int)))
 have fz:=rn_free HY4.out
 obtain⟨r0,r3,r5,r6,r7,r9,r10,r11,r12⟩:=rn_cells HY4.out
 have HM5:Hid (MB W5 mb g s.newL.newC):=by show MB _ _ _ _;rw[hW5];exact h4.other HY4.out (by omega) (by decide) (by decide) (by decide) _ _
 have HT5:Hid (Step mb w W5):=by show Step _ _ _;rw[hW5];exact HT4.out.other (by have:=HRG.out;have:=HNB.out;omega) hrl _ _
 have HY5:Hid (W5.heap[rb]? =some (rnO mb n true false c l)):=by show _=_;rw[hW5];exact rn_done HY4.out _
 go_upto_region 5 with fail
 rw[← hW5]
 clear hW5 fz r0 r3 r5 r6 r7 r9 r10 r11 r12 h4 HT4 HY4
 have HC3:=hide (all_any HM5.out rb hrl n v x true false c l HY5.out HKA.out HKL.out (fun W hW=>HK.out W (HT5.out.trans hW)) f HUf.out (fun W s hW hM hh=>HF.out W s (HT5.out.trans hW) hM hh) (by have e0:=HN0.out;have e1:=HN1.out;have:=HS0.out.1;have:=HS0.out.2.1;have:=HS0.out.2.2;(try simp only[z5,z8]);omega) HCB.out HB1.out HB2.out HB3.out HFA.out)
 go_wp2_with fail
 refine HC3.out.mono ?_
 rintro e w6 ⟨rfl,h6,st6⟩
 have HH:=hide h6
 have HT6:=hide (HT5.out.trans st6)
 clear h6 st6 HC3
 go_wp2
 go_end0
 rw[HE.out]
 exact⟨rfl,HH.out,HT6.out⟩
variable {w w' : World} {mb : Nat} {g : Int} {s s' : MS}
theorem roundsA1(h:MB w mb g s)(n v:NV)(x:Addr)(F:FT)(hka:n.ka=some x)(hkl:n.kl=1)(hK:∀W,Step mb w W→NCells W x v)(hF:∀W,Step mb w W→Calls prog 64 #[nvV v] W fun e w'=>e=.returned (ftV F)∧Below W.heap.size W w')(f:MS→MS)(hu:Up f)(hf:DoesF mb g w 42 #[.pointer (some ⟨mb,0,none⟩),nvV v] f)(hl:0≤n.least)(hm:n.most= -1∨n.least≤n.most)(hm0:n.most≠0)(q1:0<n.least)(q3:¬n.least=n.most)(q4:F.least=0)(hs:(roundsM n.least n.most n.way F.least f s).fits):Calls prog 112 #[.pointer (some ⟨mb,0,none⟩),nvV n] w fun e w'=>MkE mb g (roundsM n.least n.most n.way F.least f s) w e w':=by
 have HCB:Hid (true=(decide (0<n.least)||decide (0<n.most))):=by show _=_;simp[q1]
 have HWB:Hid (true=(!decide (n.least=n.most)&&decide (F.least=0))):=by show _=_;simp[q3,q4]
 have HE:Hid (roundsM n.least n.most n.way F.least f s=allM ⟨n.least,n.most,n.way,true,true,s.cnt,s.lab.length⟩ f s.newL.newC):=by show _=_;unfold roundsM;dsimp only;rw[← HCB.out, ←HWB.out];rfl
 have HS0:=hide ((rounds_up _ _ _ _ hu s).fits hs)
 have HF:=hide hf
 have HK:=hide hK
 have HUf:=hide hu
 have HKA:=hide hka
 have HKL:=hide hkl
 have hlt:=h.lt
 have HFA:Hid (allM ⟨n.least,n.most,n.way,true,true,s.cnt,s.lab.length⟩ f s.newL.newC).fits:=by have hh:=hs;rw[HE.out]at hh;exact hh
 obtain⟨c,hc⟩:=named s.cnt
 have HN0:=hide hc
 clear hc
 obtain⟨l,hl⟩:=named s.lab.length
 have HN1:=hide hl
 clear hl
 rw[← HN1.out, ←HN0.out]at HE HFA
 have HFc:=hide hF
 have HB1:=hide (show 0≤n.least from hl)
 have HB2:=hide hm
 have HB3:=hide hm0
 obtain⟨W0,hW0⟩:=named (w.alloc (nvO n))
 have hb0:Below w.heap.size w W0:=by rw[hW0];exact allocB _ _
 have hx0:W0.heap[w.heap.size]? =some (nvO n):=by rw[hW0];exact at_new _ _
 have h0:=h.keep hb0
 have HT0:=hide (Step.of_below hb0 hlt)
 obtain⟨nb,hnb⟩:=named w.heap.size
 have hnl:mb<nb:=by omega
 have HNB:=hide hnb
 rw[← hnb]at hx0
 have HX0:=hide hx0
 simp only[nvO]at hW0
 have HS:Hid (Step mb W0 W0.drew):=Step.of_below (drew1 W0) h0.lt
 have HC1:=hide (newL_at (h0.keep (drew1 W0)) l (by have e0:=HN0.out;have e1:=HN1.out;have:=HS0.out.1;have:=HS0.out.2.1;have:=HS0.out.2.2;(try simp only[z1,z2,z3,z4,z5,z6,z7,z8,z9,za,zb,zc]);omega) (by have e0:=HN0.out;have e1:=HN1.out;have:=HS0.out.1;have:=HS0.out.2.1;have:=HS0.out.2.2;(try simp only[z1,z2,z3,z4,z5,z6,z7,z8,z9,za,zb,zc]);omega))
 have hw0:W0.heap.size=nb+1:=by rw[hW0,hnb];simp
 have HW0:=hide hw0
 have b3:(n.least==n.most)=false:=by simpa using q3
 have b5:(n.least !=n.most)=true:=by simpa using q3
 have b4:(F.least==0)=true:=by simpa using q4
 clear hf hs hu h hK hx0 hb0 hka hkl hF h0 hl hm hm0 hw0 q4
 go_enter func112,ntmps112
 go_upto_region 1 with fail
 rw[← hW0, ←hnb]
 clear hW0 hnb
 refine wp_region_held (S:=fun w'=>Step mb W0 w') (by kernel_rfl) ?_
 change wpAnyH _ _ _ _ _ _ _ _ (World.drew _)
 refine takeH 0 (.pointer (some ⟨mb,0,none⟩)) rfl (fun _ _ _ h=>h) HS.out (fun w' hS=>?_) ?_
 ·go_simp
 refine takeH 1 (nvV n) rfl (fun _ _ _ h=>h) HS.out (fun w' hS=>?_) ?_
 ·(obtain⟨d0,d1,d2,d3,d4,d5,d6,d7⟩:=nv_cells (hS.blk hnl HX0.out (by decide) (by decide));simp only[Nat.zero_add]at d0 d1 d2 d3 d4 d5 d6 d7;go_simp)
 refine takeH 2 (.pointer (some ⟨nb,4,none⟩)) rfl (fun _ _ _ h=>h) HS.out (fun w' hS=>?_) ?_
 ·go_simp
 refine takeH 3 (.int .i64 n.least) rfl (fun _ _ _ h=>h) HS.out (fun w' hS=>?_) ?_
 ·(obtain⟨d0,d1,d2,d3,d4,d5,d6,d7⟩:=nv_cells (hS.blk hnl HX0.out (by decide) (by decide));simp only[Nat.zero_add]at d0 d1 d2 d3 d4 d5 d6 d7;go_simp)
 refine takeH 4 (.bool true) rfl (fun _ _ _ h=>h) HS.out (fun w' hS=>?_) ?_
 ·go_simp
 refine takeH 5 (.bool true) rfl (fun _ _ _ h=>h) HS.out (fun w' hS=>?_) ?_
 ·go_simp
 refine wpAnyH_take (i:=6) (v:=undef) rfl (by kernel_rfl) (by kernel_rfl) (by kernel_rfl) (fun _ _ _ h=>h) (Or.inr ⟨by kernel_rfl,rfl⟩) HS.out ?_
 refine wpAnyH_take (i:=7) (v:=undef) rfl (by kernel_rfl) (by kernel_rfl) (by kernel_rfl) (fun _ _ _ h=>h) (Or.inr ⟨by kernel_rfl,rfl⟩) HS.out ?_
 refine wpAnyH_take (i:=8) (v:=undef) rfl (by kernel_rfl) (by kernel_rfl) (by kernel_rfl) (fun _ _ _ h=>h) (Or.inr ⟨by kernel_rfl,rfl⟩) HS.out ?_
 refine takeH 9 (.bool true) rfl (fun _ _ _ h=>h) HS.out (fun w' hS=>?_) ?_
 ·go_simp
 refine takeH 10 (.pointer (some ⟨mb,0,none⟩)) rfl (fun _ _ _ h=>h) HS.out (fun w' hS=>?_) ?_
 ·go_simp
 refine wpAnyH_ready (rs:=[11]) (by kernel_rfl) (by simp) ?_
 refine AllReadyH.cons rfl (fun K hK=>?_) AllReadyH.nil
 go_simp
 refine HC1.out.mono ?_
 rintro e w1 ⟨rfl,h1,st1⟩
 have HTx:=hide (HS.out.trans st1)
 refine hK.out _ _ HTx.out (fun _=>?_)
 clear hK K
 have HT1:=hide (HT0.out.trans HTx.out)
 have HX1:=hide (HTx.out.blk hnl HX0.out (by decide) (by decide))
 refine takeH 12 (.agg #[.pointer (some ⟨mb,0,none⟩),.int .i64 n.kind,.slice n.sa n.sl n.sc,.slice n.ka n.kl n.kc,.int .i64 n.num,.int .i64 n.least,.int .i64 n.most,.int .i64 n.way,.bool n.fold,.bool true,.bool false,.int .i64 0,.int .i64 (l:Int)]) rfl (fun _ _ _ h=>h) HTx.out (fun w' hS=>?_) ?_
 ·go_simp
 refine wpAnyH_ready (rs:=[13]) (by kernel_rfl) (by simp) ?_
 refine AllReadyH.cons rfl (fun K hK=>?_) AllReadyH.nil
 go_simp
 obtain⟨W2,hW2⟩:=named (w1.alloc (rnO mb n true false 0 l))
 have hb2:Below w1.heap.size w1 W2:=by rw[hW2];exact allocB _ _
 have hy2:W2.heap[w1.heap.size]? =some (rnO mb n true false 0 l):=by rw[hW2];exact at_new _ _
 have hs2:=Step.of_below hb2 h1.lt
 have h2:=h1.keep hb2
 have HT2:=hide (HT1.out.trans hs2)
 have HTy:=hide (HTx.out.trans hs2)
 have HX2:=hide (hs2.blk hnl HX1.out (by decide) (by decide))
 obtain⟨rb,hrb⟩:=named w1.heap.size
 have hrl:mb<rb:=by have:=h1.lt;omega
 have HRG:Hid (nb<rb):=by have h5:=HTx.out.size;have h6:=HW0.out;show nb<rb;omega
 rw[← hrb]at hy2
 have HY2:=hide hy2
 simp only[rnO]at hW2
 rw[show ((0:Nat):Int)=0 from rfl]at hW2
 rw[← hW2, ←hrb]
 refine hK.out _ _ HTy.out (fun _=>?_)
 clear hK K
 refine takeH 14 (.pointer (some ⟨rb,0,none⟩)) rfl (fun _ _ _ h=>h) HTy.out (fun w' hS=>?_) ?_
 ·go_simp
 refine wpAnyH_done (by kernel_rfl) ?_ _
 clear HC1 HT0 HT1 HTx HTy HX0 HX1 h1 st1 hb2 hs2 hW2 hrb hy2 HS
 obtain⟨d0,d1,d2,d3,d4,d5,d6,d7⟩:=nv_cells HX2.out
 simp only[Nat.zero_add]at d0 d1 d2 d3 d4 d5 d6 d7
 rw[HKA.out,HKL.out]at d2
 obtain⟨k0,k1,k2,k3,k4,k5,k6,k7⟩:=HK.out _ HT2.out
 have HCf:=hide (HFc.out W2 HT2.out)
 go_wp2_with fail
 refine HCf.out.mono ?_
 rintro e W2b ⟨rfl,hbb⟩
 have hsb:=Step.of_below hbb h2.lt
 have h2b:=h2.keep hbb
 have HT2b:=hide (HT2.out.trans hsb)
 have HY2b:=hide (hsb.blk hrl HY2.out (by decide) (by decide))
 clear HCf k0 k1 k2 k3 k4 k5 k6 k7 d0 d1 d2 d3 d4 d5 d6 d7 hbb hsb h2 HT2 HY2 HX2
 obtain⟨W3,hW3⟩:=named (W2b.setCell ⟨rb,10,none⟩ (.bool true))
 have fz:=rn_free HY2b.out
 obtain⟨r0,r3,r5,r6,r7,r9,r10,r11,r12⟩:=rn_cells HY2b.out
 have HM3:Hid (MB W3 mb g s.newL):=by show MB _ _ _ _;rw[hW3];exact h2b.other HY2b.out (by omega) (by decide) (by decide) (by decide) _ _
 have HT3:Hid (Step mb w W3):=by show Step _ _ _;rw[hW3];exact HT2b.out.other (by have:=HRG.out;have:=HNB.out;omega) hrl _ _
 have HY3:Hid (W3.heap[rb]? =some (rnO mb n true true 0 l)):=by show _=_;rw[hW3];exact rn_watch HY2b.out _
 obtain⟨Fl,Fm,Fp⟩:=F
 simp only[ftV]at b4 ⊢
 have hfd:∀W:World,(Instr.field 127 (.agg #[.int .i64 Fl,.int .i64 Fm,.bool Fp]) 0).run prog W=.ok (.int .i64 Fl) W:=fun W=>by rfl
 go_upto_region 3 with fail
 rw[← hW3]
 clear hW3 fz r0 r3 r5 r6 r7 r9 r10 r11 r12 h2b HT2b HY2b
 obtain⟨r0,r3,r5,r6,r7,r9,r10,r11,r12⟩:=rn_cells HY3.out
 have HC2:=hide (newC_at HM3.out c (by have e0:=HN0.out;have e1:=HN1.out;have:=HS0.out.1;have:=HS0.out.2.1;have:=HS0.out.2.2;(try simp only[z9]);omega) (by have e0:=HN0.out;have e1:=HN1.out;have:=HS0.out.1;have:=HS0.out.2.1;have:=HS0.out.2.2;(try simp only[z1,z2,z3,z4,z5,z6,z7,z8,z9,za,zb,zc]);omega))
 go_wp2_with fail
 refine HC2.out.mono ?_
 rintro e w4 ⟨rfl,h4,st4⟩
 have HY4:=hide (st4.blk hrl HY3.out (by decide) (by decide))
 have HT4:=hide (HT3.out.trans st4)
 clear HC2 HM3 HT3 HY3 st4 r0 r3 r5 r6 r7 r9 r10 r11 r12
 obtain⟨W5,hW5⟩:=named (w4.setCell ⟨rb,11,none⟩ (.int .i64 (c:Int)))
 have fz:=rn_free HY4.out
 obtain⟨r0,r3,r5,r6,r7,r9,r10,r11,r12⟩:=rn_cells HY4.out
 have HM5:Hid (MB W5 mb g s.newL.newC):=by show MB _ _ _ _;rw[hW5];exact h4.other HY4.out (by omega) (by decide) (by decide) (by decide) _ _
 have HT5:Hid (Step mb w W5):=by show Step _ _ _;rw[hW5];exact HT4.out.other (by have:=HRG.out;have:=HNB.out;omega) hrl _ _
 have HY5:Hid (W5.heap[rb]? =some (rnO mb n true true c l)):=by show _=_;rw[hW5];exact rn_done HY4.out _
 go_upto_region 5 with fail
 rw[← hW5]
 clear hW5 fz r0 r3 r5 r6 r7 r9 r10 r11 r12 h4 HT4 HY4
 have HC3:=hide (all_any HM5.out rb hrl n v x true true c l HY5.out HKA.out HKL.out (fun W hW=>HK.out W (HT5.out.trans hW)) f HUf.out (fun W s hW hM hh=>HF.out W s (HT5.out.trans hW) hM hh) (by have e0:=HN0.out;have e1:=HN1.out;have:=HS0.out.1;have:=HS0.out.2.1;have:=HS0.out.2.2;(try simp only[z5,z8]);omega) HCB.out HB1.out HB2.out HB3.out HFA.out)
 go_wp2_with fail
 refine HC3.out.mono ?_
 rintro e w6 ⟨rfl,h6,st6⟩
 have HH:=hide h6
 have HT6:=hide (HT5.out.trans st6)
 clear h6 st6 HC3
 go_wp2
 go_end0
 rw[HE.out]
 exact⟨rfl,HH.out,HT6.out⟩
variable {w w' : World} {mb : Nat} {g : Int} {s s' : MS}
theorem roundsA2(h:MB w mb g s)(n v:NV)(x:Addr)(F:FT)(hka:n.ka=some x)(hkl:n.kl=1)(hK:∀W,Step mb w W→NCells W x v)(hF:∀W,Step mb w W→Calls prog 64 #[nvV v] W fun e w'=>e=.returned (ftV F)∧Below W.heap.size W w')(f:MS→MS)(hu:Up f)(hf:DoesF mb g w 42 #[.pointer (some ⟨mb,0,none⟩),nvV v] f)(hl:0≤n.least)(hm:n.most= -1∨n.least≤n.most)(hm0:n.most≠0)(q1:0<n.least)(q3:¬n.least=n.most)(q4:¬F.least=0)(hs:(roundsM n.least n.most n.way F.least f s).fits):Calls prog 112 #[.pointer (some ⟨mb,0,none⟩),nvV n] w fun e w'=>MkE mb g (roundsM n.least n.most n.way F.least f s) w e w':=by
 have HCB:Hid (true=(decide (0<n.least)||decide (0<n.most))):=by show _=_;simp[q1]
 have HWB:Hid (false=(!decide (n.least=n.most)&&decide (F.least=0))):=by show _=_;simp[q3,q4]
 have HE:Hid (roundsM n.least n.most n.way F.least f s=allM ⟨n.least,n.most,n.way,true,false,s.cnt,s.lab.length⟩ f s.newL.newC):=by show _=_;unfold roundsM;dsimp only;rw[← HCB.out, ←HWB.out];rfl
 have HS0:=hide ((rounds_up _ _ _ _ hu s).fits hs)
 have HF:=hide hf
 have HK:=hide hK
 have HUf:=hide hu
 have HKA:=hide hka
 have HKL:=hide hkl
 have hlt:=h.lt
 have HFA:Hid (allM ⟨n.least,n.most,n.way,true,false,s.cnt,s.lab.length⟩ f s.newL.newC).fits:=by have hh:=hs;rw[HE.out]at hh;exact hh
 obtain⟨c,hc⟩:=named s.cnt
 have HN0:=hide hc
 clear hc
 obtain⟨l,hl⟩:=named s.lab.length
 have HN1:=hide hl
 clear hl
 rw[← HN1.out, ←HN0.out]at HE HFA
 have HFc:=hide hF
 have HB1:=hide (show 0≤n.least from hl)
 have HB2:=hide hm
 have HB3:=hide hm0
 obtain⟨W0,hW0⟩:=named (w.alloc (nvO n))
 have hb0:Below w.heap.size w W0:=by rw[hW0];exact allocB _ _
 have hx0:W0.heap[w.heap.size]? =some (nvO n):=by rw[hW0];exact at_new _ _
 have h0:=h.keep hb0
 have HT0:=hide (Step.of_below hb0 hlt)
 obtain⟨nb,hnb⟩:=named w.heap.size
 have hnl:mb<nb:=by omega
 have HNB:=hide hnb
 rw[← hnb]at hx0
 have HX0:=hide hx0
 simp only[nvO]at hW0
 have HS:Hid (Step mb W0 W0.drew):=Step.of_below (drew1 W0) h0.lt
 have HC1:=hide (newL_at (h0.keep (drew1 W0)) l (by have e0:=HN0.out;have e1:=HN1.out;have:=HS0.out.1;have:=HS0.out.2.1;have:=HS0.out.2.2;(try simp only[z1,z2,z3,z4,z5,z6,z7,z8,z9,za,zb,zc]);omega) (by have e0:=HN0.out;have e1:=HN1.out;have:=HS0.out.1;have:=HS0.out.2.1;have:=HS0.out.2.2;(try simp only[z1,z2,z3,z4,z5,z6,z7,z8,z9,za,zb,zc]);omega))
 have hw0:W0.heap.size=nb+1:=by rw[hW0,hnb];simp
 have HW0:=hide hw0
 have b3:(n.least==n.most)=false:=by simpa using q3
 have b5:(n.least !=n.most)=true:=by simpa using q3
 have b4:(F.least==0)=false:=by simpa using q4
 clear hf hs hu h hK hx0 hb0 hka hkl hF h0 hl hm hm0 hw0 q4
 go_enter func112,ntmps112
 go_upto_region 1 with fail
 rw[← hW0, ←hnb]
 clear hW0 hnb
 refine wp_region_held (S:=fun w'=>Step mb W0 w') (by kernel_rfl) ?_
 change wpAnyH _ _ _ _ _ _ _ _ (World.drew _)
 refine takeH 0 (.pointer (some ⟨mb,0,none⟩)) rfl (fun _ _ _ h=>h) HS.out (fun w' hS=>?_) ?_
 ·go_simp
 refine takeH 1 (nvV n) rfl (fun _ _ _ h=>h) HS.out (fun w' hS=>?_) ?_
 ·(obtain⟨d0,d1,d2,d3,d4,d5,d6,d7⟩:=nv_cells (hS.blk hnl HX0.out (by decide) (by decide));simp only[Nat.zero_add]at d0 d1 d2 d3 d4 d5 d6 d7;go_simp)
 refine takeH 2 (.pointer (some ⟨nb,4,none⟩)) rfl (fun _ _ _ h=>h) HS.out (fun w' hS=>?_) ?_
 ·go_simp
 refine takeH 3 (.int .i64 n.least) rfl (fun _ _ _ h=>h) HS.out (fun w' hS=>?_) ?_
 ·(obtain⟨d0,d1,d2,d3,d4,d5,d6,d7⟩:=nv_cells (hS.blk hnl HX0.out (by decide) (by decide));simp only[Nat.zero_add]at d0 d1 d2 d3 d4 d5 d6 d7;go_simp)
 refine takeH 4 (.bool true) rfl (fun _ _ _ h=>h) HS.out (fun w' hS=>?_) ?_
 ·go_simp
 refine takeH 5 (.bool true) rfl (fun _ _ _ h=>h) HS.out (fun w' hS=>?_) ?_
 ·go_simp
 refine wpAnyH_take (i:=6) (v:=undef) rfl (by kernel_rfl) (by kernel_rfl) (by kernel_rfl) (fun _ _ _ h=>h) (Or.inr ⟨by kernel_rfl,rfl⟩) HS.out ?_
 refine wpAnyH_take (i:=7) (v:=undef) rfl (by kernel_rfl) (by kernel_rfl) (by kernel_rfl) (fun _ _ _ h=>h) (Or.inr ⟨by kernel_rfl,rfl⟩) HS.out ?_
 refine wpAnyH_take (i:=8) (v:=undef) rfl (by kernel_rfl) (by kernel_rfl) (by kernel_rfl) (fun _ _ _ h=>h) (Or.inr ⟨by kernel_rfl,rfl⟩) HS.out ?_
 refine takeH 9 (.bool true) rfl (fun _ _ _ h=>h) HS.out (fun w' hS=>?_) ?_
 ·go_simp
 refine takeH 10 (.pointer (some ⟨mb,0,none⟩)) rfl (fun _ _ _ h=>h) HS.out (fun w' hS=>?_) ?_
 ·go_simp
 refine wpAnyH_ready (rs:=[11]) (by kernel_rfl) (by simp) ?_
 refine AllReadyH.cons rfl (fun K hK=>?_) AllReadyH.nil
 go_simp
 refine HC1.out.mono ?_
 rintro e w1 ⟨rfl,h1,st1⟩
 have HTx:=hide (HS.out.trans st1)
 refine hK.out _ _ HTx.out (fun _=>?_)
 clear hK K
 have HT1:=hide (HT0.out.trans HTx.out)
 have HX1:=hide (HTx.out.blk hnl HX0.out (by decide) (by decide))
 refine takeH 12 (.agg #[.pointer (some ⟨mb,0,none⟩),.int .i64 n.kind,.slice n.sa n.sl n.sc,.slice n.ka n.kl n.kc,.int .i64 n.num,.int .i64 n.least,.int .i64 n.most,.int .i64 n.way,.bool n.fold,.bool true,.bool false,.int .i64 0,.int .i64 (l:Int)]) rfl (fun _ _ _ h=>h) HTx.out (fun w' hS=>?_) ?_
 ·go_simp
 refine wpAnyH_ready (rs:=[13]) (by kernel_rfl) (by simp) ?_
 refine AllReadyH.cons rfl (fun K hK=>?_) AllReadyH.nil
 go_simp
 obtain⟨W2,hW2⟩:=named (w1.alloc (rnO mb n true false 0 l))
 have hb2:Below w1.heap.size w1 W2:=by rw[hW2];exact allocB _ _
 have hy2:W2.heap[w1.heap.size]? =some (rnO mb n true false 0 l):=by rw[hW2];exact at_new _ _
 have hs2:=Step.of_below hb2 h1.lt
 have h2:=h1.keep hb2
 have HT2:=hide (HT1.out.trans hs2)
 have HTy:=hide (HTx.out.trans hs2)
 have HX2:=hide (hs2.blk hnl HX1.out (by decide) (by decide))
 obtain⟨rb,hrb⟩:=named w1.heap.size
 have hrl:mb<rb:=by have:=h1.lt;omega
 have HRG:Hid (nb<rb):=by have h5:=HTx.out.size;have h6:=HW0.out;show nb<rb;omega
 rw[← hrb]at hy2
 have HY2:=hide hy2
 simp only[rnO]at hW2
 rw[show ((0:Nat):Int)=0 from rfl]at hW2
 rw[← hW2, ←hrb]
 refine hK.out _ _ HTy.out (fun _=>?_)
 clear hK K
 refine takeH 14 (.pointer (some ⟨rb,0,none⟩)) rfl (fun _ _ _ h=>h) HTy.out (fun w' hS=>?_) ?_
 ·go_simp
 refine wpAnyH_done (by kernel_rfl) ?_ _
 clear HC1 HT0 HT1 HTx HTy HX0 HX1 h1 st1 hb2 hs2 hW2 hrb hy2 HS
 obtain⟨d0,d1,d2,d3,d4,d5,d6,d7⟩:=nv_cells HX2.out
 simp only[Nat.zero_add]at d0 d1 d2 d3 d4 d5 d6 d7
 rw[HKA.out,HKL.out]at d2
 obtain⟨k0,k1,k2,k3,k4,k5,k6,k7⟩:=HK.out _ HT2.out
 have HCf:=hide (HFc.out W2 HT2.out)
 go_wp2_with fail
 refine HCf.out.mono ?_
 rintro e W2b ⟨rfl,hbb⟩
 have hsb:=Step.of_below hbb h2.lt
 have h2b:=h2.keep hbb
 have HT2b:=hide (HT2.out.trans hsb)
 have HY2b:=hide (hsb.blk hrl HY2.out (by decide) (by decide))
 clear HCf k0 k1 k2 k3 k4 k5 k6 k7 d0 d1 d2 d3 d4 d5 d6 d7 hbb hsb h2 HT2 HY2 HX2
 obtain⟨W3,hW3⟩:=named (W2b.setCell ⟨rb,10,none⟩ (.bool false))
 have fz:=rn_free HY2b.out
 obtain⟨r0,r3,r5,r6,r7,r9,r10,r11,r12⟩:=rn_cells HY2b.out
 have HM3:Hid (MB W3 mb g s.newL):=by show MB _ _ _ _;rw[hW3];exact h2b.other HY2b.out (by omega) (by decide) (by decide) (by decide) _ _
 have HT3:Hid (Step mb w W3):=by show Step _ _ _;rw[hW3];exact HT2b.out.other (by have:=HRG.out;have:=HNB.out;omega) hrl _ _
 have HY3:Hid (W3.heap[rb]? =some (rnO mb n true false 0 l)):=by show _=_;rw[hW3];exact rn_watch HY2b.out _
 obtain⟨Fl,Fm,Fp⟩:=F
 simp only[ftV]at b4 ⊢
 have hfd:∀W:World,(Instr.field 127 (.agg #[.int .i64 Fl,.int .i64 Fm,.bool Fp]) 0).run prog W=.ok (.int .i64 Fl) W:=fun W=>by rfl
 go_upto_region 3 with fail
 rw[← hW3]
 clear hW3 fz r0 r3 r5 r6 r7 r9 r10 r11 r12 h2b HT2b HY2b
 obtain⟨r0,r3,r5,r6,r7,r9,r10,r11,r12⟩:=rn_cells HY3.out
 have HC2:=hide (newC_at HM3.out c (by have e0:=HN0.out;have e1:=HN1.out;have:=HS0.out.1;have:=HS0.out.2.1;have:=HS0.out.2.2;(try simp only[z9]);omega) (by have e0:=HN0.out;have e1:=HN1.out;have:=HS0.out.1;have:=HS0.out.2.1;have:=HS0.out.2.2;(try simp only[z1,z2,z3,z4,z5,z6,z7,z8,z9,za,zb,zc]);omega))
 go_wp2_with fail
 refine HC2.out.mono ?_
 rintro e w4 ⟨rfl,h4,st4⟩
 have HY4:=hide (st4.blk hrl HY3.out (by decide) (by decide))
 have HT4:=hide (HT3.out.trans st4)
 clear HC2 HM3 HT3 HY3 st4 r0 r3 r5 r6 r7 r9 r10 r11 r12
 obtain⟨W5,hW5⟩:=named (w4.setCell ⟨rb,11,none⟩ (.int .i64 (c:Int)))
 have fz:=rn_free HY4.out
 obtain⟨r0,r3,r5,r6,r7,r9,r10,r11,r12⟩:=rn_cells HY4.out
 have HM5:Hid (MB W5 mb g s.newL.newC):=by show MB _ _ _ _;rw[hW5];exact h4.other HY4.out (by omega) (by decide) (by decide) (by decide) _ _
 have HT5:Hid (Step mb w W5):=by show Step _ _ _;rw[hW5];exact HT4.out.other (by have:=HRG.out;have:=HNB.out;omega) hrl _ _
 have HY5:Hid (W5.heap[rb]? =some (rnO mb n true false c l)):=by show _=_;rw[hW5];exact rn_done HY4.out _
 go_upto_region 5 with fail
 rw[← hW5]
 clear hW5 fz r0 r3 r5 r6 r7 r9 r10 r11 r12 h4 HT4 HY4
 have HC3:=hide (all_any HM5.out rb hrl n v x true false c l HY5.out HKA.out HKL.out (fun W hW=>HK.out W (HT5.out.trans hW)) f HUf.out (fun W s hW hM hh=>HF.out W s (HT5.out.trans hW) hM hh) (by have e0:=HN0.out;have e1:=HN1.out;have:=HS0.out.1;have:=HS0.out.2.1;have:=HS0.out.2.2;(try simp only[z5,z8]);omega) HCB.out HB1.out HB2.out HB3.out HFA.out)
 go_wp2_with fail
 refine HC3.out.mono ?_
 rintro e w6 ⟨rfl,h6,st6⟩
 have HH:=hide h6
 have HT6:=hide (HT5.out.trans st6)
 clear h6 st6 HC3
 go_wp2
 go_end0
 rw[HE.out]
 exact⟨rfl,HH.out,HT6.out⟩
variable {w w' : World} {mb : Nat} {g : Int} {s s' : MS}
theorem roundsB1(h:MB w mb g s)(n v:NV)(x:Addr)(F:FT)(hka:n.ka=some x)(hkl:n.kl=1)(hK:∀W,Step mb w W→NCells W x v)(hF:∀W,Step mb w W→Calls prog 64 #[nvV v] W fun e w'=>e=.returned (ftV F)∧Below W.heap.size W w')(f:MS→MS)(hu:Up f)(hf:DoesF mb g w 42 #[.pointer (some ⟨mb,0,none⟩),nvV v] f)(hl:0≤n.least)(hm:n.most= -1∨n.least≤n.most)(hm0:n.most≠0)(q1:¬0<n.least)(q2:0<n.most)(q3:¬n.least=n.most)(q4:F.least=0)(hs:(roundsM n.least n.most n.way F.least f s).fits):Calls prog 112 #[.pointer (some ⟨mb,0,none⟩),nvV n] w fun e w'=>MkE mb g (roundsM n.least n.most n.way F.least f s) w e w':=by
 have HCB:Hid (true=(decide (0<n.least)||decide (0<n.most))):=by show _=_;simp[q1,q2]
 have HWB:Hid (true=(!decide (n.least=n.most)&&decide (F.least=0))):=by show _=_;simp[q3,q4]
 have HE:Hid (roundsM n.least n.most n.way F.least f s=allM ⟨n.least,n.most,n.way,true,true,s.cnt,s.lab.length⟩ f s.newL.newC):=by show _=_;unfold roundsM;dsimp only;rw[← HCB.out, ←HWB.out];rfl
 have HS0:=hide ((rounds_up _ _ _ _ hu s).fits hs)
 have HF:=hide hf
 have HK:=hide hK
 have HUf:=hide hu
 have HKA:=hide hka
 have HKL:=hide hkl
 have hlt:=h.lt
 have HFA:Hid (allM ⟨n.least,n.most,n.way,true,true,s.cnt,s.lab.length⟩ f s.newL.newC).fits:=by have hh:=hs;rw[HE.out]at hh;exact hh
 obtain⟨c,hc⟩:=named s.cnt
 have HN0:=hide hc
 clear hc
 obtain⟨l,hl⟩:=named s.lab.length
 have HN1:=hide hl
 clear hl
 rw[← HN1.out, ←HN0.out]at HE HFA
 have HFc:=hide hF
 have HB1:=hide (show 0≤n.least from hl)
 have HB2:=hide hm
 have HB3:=hide hm0
 obtain⟨W0,hW0⟩:=named (w.alloc (nvO n))
 have hb0:Below w.heap.size w W0:=by rw[hW0];exact allocB _ _
 have hx0:W0.heap[w.heap.size]? =some (nvO n):=by rw[hW0];exact at_new _ _
 have h0:=h.keep hb0
 have HT0:=hide (Step.of_below hb0 hlt)
 obtain⟨nb,hnb⟩:=named w.heap.size
 have hnl:mb<nb:=by omega
 have HNB:=hide hnb
 rw[← hnb]at hx0
 have HX0:=hide hx0
 simp only[nvO]at hW0
 have HS:Hid (Step mb W0 W0.drew):=Step.of_below (drew1 W0) h0.lt
 have HC1:=hide (newL_at (h0.keep (drew1 W0)) l (by have e0:=HN0.out;have e1:=HN1.out;have:=HS0.out.1;have:=HS0.out.2.1;have:=HS0.out.2.2;(try simp only[z1,z2,z3,z4,z5,z6,z7,z8,z9,za,zb,zc]);omega) (by have e0:=HN0.out;have e1:=HN1.out;have:=HS0.out.1;have:=HS0.out.2.1;have:=HS0.out.2.2;(try simp only[z1,z2,z3,z4,z5,z6,z7,z8,z9,za,zb,zc]);omega))
 have hw0:W0.heap.size=nb+1:=by rw[hW0,hnb];simp
 have HW0:=hide hw0
 have b3:(n.least==n.most)=false:=by simpa using q3
 have b5:(n.least !=n.most)=true:=by simpa using q3
 have b4:(F.least==0)=true:=by simpa using q4
 clear hf hs hu h hK hx0 hb0 hka hkl hF h0 hl hm hm0 hw0 q4
 go_enter func112,ntmps112
 go_upto_region 1 with fail
 rw[← hW0, ←hnb]
 clear hW0 hnb
 refine wp_region_held (S:=fun w'=>Step mb W0 w') (by kernel_rfl) ?_
 change wpAnyH _ _ _ _ _ _ _ _ (World.drew _)
 refine takeH 0 (.pointer (some ⟨mb,0,none⟩)) rfl (fun _ _ _ h=>h) HS.out (fun w' hS=>?_) ?_
 ·go_simp
 refine takeH 1 (nvV n) rfl (fun _ _ _ h=>h) HS.out (fun w' hS=>?_) ?_
 ·(obtain⟨d0,d1,d2,d3,d4,d5,d6,d7⟩:=nv_cells (hS.blk hnl HX0.out (by decide) (by decide));simp only[Nat.zero_add]at d0 d1 d2 d3 d4 d5 d6 d7;go_simp)
 refine takeH 2 (.pointer (some ⟨nb,4,none⟩)) rfl (fun _ _ _ h=>h) HS.out (fun w' hS=>?_) ?_
 ·go_simp
 refine takeH 3 (.int .i64 n.least) rfl (fun _ _ _ h=>h) HS.out (fun w' hS=>?_) ?_
 ·(obtain⟨d0,d1,d2,d3,d4,d5,d6,d7⟩:=nv_cells (hS.blk hnl HX0.out (by decide) (by decide));simp only[Nat.zero_add]at d0 d1 d2 d3 d4 d5 d6 d7;go_simp)
 refine takeH 4 (.bool false) rfl (fun _ _ _ h=>h) HS.out (fun w' hS=>?_) ?_
 ·go_simp
 refine takeH 5 (.bool false) rfl (fun _ _ _ h=>h) HS.out (fun w' hS=>?_) ?_
 ·go_simp
 refine takeH 6 (.pointer (some ⟨nb,5,none⟩)) rfl (fun _ _ _ h=>h) HS.out (fun w' hS=>?_) ?_
 ·go_simp
 refine takeH 7 (.int .i64 n.most) rfl (fun _ _ _ h=>h) HS.out (fun w' hS=>?_) ?_
 ·(obtain⟨d0,d1,d2,d3,d4,d5,d6,d7⟩:=nv_cells (hS.blk hnl HX0.out (by decide) (by decide));simp only[Nat.zero_add]at d0 d1 d2 d3 d4 d5 d6 d7;go_simp)
 refine takeH 8 (.bool true) rfl (fun _ _ _ h=>h) HS.out (fun w' hS=>?_) ?_
 ·go_simp
 refine takeH 9 (.bool true) rfl (fun _ _ _ h=>h) HS.out (fun w' hS=>?_) ?_
 ·go_simp
 refine takeH 10 (.pointer (some ⟨mb,0,none⟩)) rfl (fun _ _ _ h=>h) HS.out (fun w' hS=>?_) ?_
 ·go_simp
 refine wpAnyH_ready (rs:=[11]) (by kernel_rfl) (by simp) ?_
 refine AllReadyH.cons rfl (fun K hK=>?_) AllReadyH.nil
 go_simp
 refine HC1.out.mono ?_
 rintro e w1 ⟨rfl,h1,st1⟩
 have HTx:=hide (HS.out.trans st1)
 refine hK.out _ _ HTx.out (fun _=>?_)
 clear hK K
 have HT1:=hide (HT0.out.trans HTx.out)
 have HX1:=hide (HTx.out.blk hnl HX0.out (by decide) (by decide))
 refine takeH 12 (.agg #[.pointer (some ⟨mb,0,none⟩),.int .i64 n.kind,.slice n.sa n.sl n.sc,.slice n.ka n.kl n.kc,.int .i64 n.num,.int .i64 n.least,.int .i64 n.most,.int .i64 n.way,.bool n.fold,.bool true,.bool false,.int .i64 0,.int .i64 (l:Int)]) rfl (fun _ _ _ h=>h) HTx.out (fun w' hS=>?_) ?_
 ·go_simp
 refine wpAnyH_ready (rs:=[13]) (by kernel_rfl) (by simp) ?_
 refine AllReadyH.cons rfl (fun K hK=>?_) AllReadyH.nil
 go_simp
 obtain⟨W2,hW2⟩:=named (w1.alloc (rnO mb n true false 0 l))
 have hb2:Below w1.heap.size w1 W2:=by rw[hW2];exact allocB _ _
 have hy2:W2.heap[w1.heap.size]? =some (rnO mb n true false 0 l):=by rw[hW2];exact at_new _ _
 have hs2:=Step.of_below hb2 h1.lt
 have h2:=h1.keep hb2
 have HT2:=hide (HT1.out.trans hs2)
 have HTy:=hide (HTx.out.trans hs2)
 have HX2:=hide (hs2.blk hnl HX1.out (by decide) (by decide))
 obtain⟨rb,hrb⟩:=named w1.heap.size
 have hrl:mb<rb:=by have:=h1.lt;omega
 have HRG:Hid (nb<rb):=by have h5:=HTx.out.size;have h6:=HW0.out;show nb<rb;omega
 rw[← hrb]at hy2
 have HY2:=hide hy2
 simp only[rnO]at hW2
 rw[show ((0:Nat):Int)=0 from rfl]at hW2
 rw[← hW2, ←hrb]
 refine hK.out _ _ HTy.out (fun _=>?_)
 clear hK K
 refine takeH 14 (.pointer (some ⟨rb,0,none⟩)) rfl (fun _ _ _ h=>h) HTy.out (fun w' hS=>?_) ?_
 ·go_simp
 refine wpAnyH_done (by kernel_rfl) ?_ _
 clear HC1 HT0 HT1 HTx HTy HX0 HX1 h1 st1 hb2 hs2 hW2 hrb hy2 HS
 obtain⟨d0,d1,d2,d3,d4,d5,d6,d7⟩:=nv_cells HX2.out
 simp only[Nat.zero_add]at d0 d1 d2 d3 d4 d5 d6 d7
 rw[HKA.out,HKL.out]at d2
 obtain⟨k0,k1,k2,k3,k4,k5,k6,k7⟩:=HK.out _ HT2.out
 have HCf:=hide (HFc.out W2 HT2.out)
 go_wp2_with fail
 refine HCf.out.mono ?_
 rintro e W2b ⟨rfl,hbb⟩
 have hsb:=Step.of_below hbb h2.lt
 have h2b:=h2.keep hbb
 have HT2b:=hide (HT2.out.trans hsb)
 have HY2b:=hide (hsb.blk hrl HY2.out (by decide) (by decide))
 clear HCf k0 k1 k2 k3 k4 k5 k6 k7 d0 d1 d2 d3 d4 d5 d6 d7 hbb hsb h2 HT2 HY2 HX2
 obtain⟨W3,hW3⟩:=named (W2b.setCell ⟨rb,10,none⟩ (.bool true))
 have fz:=rn_free HY2b.out
 obtain⟨r0,r3,r5,r6,r7,r9,r10,r11,r12⟩:=rn_cells HY2b.out
 have HM3:Hid (MB W3 mb g s.newL):=by show MB _ _ _ _;rw[hW3];exact h2b.other HY2b.out (by omega) (by decide) (by decide) (by decide) _ _
 have HT3:Hid (Step mb w W3):=by show Step _ _ _;rw[hW3];exact HT2b.out.other (by have:=HRG.out;have:=HNB.out;omega) hrl _ _
 have HY3:Hid (W3.heap[rb]? =some (rnO mb n true true 0 l)):=by show _=_;rw[hW3];exact rn_watch HY2b.out _
 obtain⟨Fl,Fm,Fp⟩:=F
 simp only[ftV]at b4 ⊢
 have hfd:∀W:World,(Instr.field 127 (.agg #[.int .i64 Fl,.int .i64 Fm,.bool Fp]) 0).run prog W=.ok (.int .i64 Fl) W:=fun W=>by rfl
 go_upto_region 3 with fail
 rw[← hW3]
 clear hW3 fz r0 r3 r5 r6 r7 r9 r10 r11 r12 h2b HT2b HY2b
 obtain⟨r0,r3,r5,r6,r7,r9,r10,r11,r12⟩:=rn_cells HY3.out
 have HC2:=hide (newC_at HM3.out c (by have e0:=HN0.out;have e1:=HN1.out;have:=HS0.out.1;have:=HS0.out.2.1;have:=HS0.out.2.2;(try simp only[z9]);omega) (by have e0:=HN0.out;have e1:=HN1.out;have:=HS0.out.1;have:=HS0.out.2.1;have:=HS0.out.2.2;(try simp only[z1,z2,z3,z4,z5,z6,z7,z8,z9,za,zb,zc]);omega))
 go_wp2_with fail
 refine HC2.out.mono ?_
 rintro e w4 ⟨rfl,h4,st4⟩
 have HY4:=hide (st4.blk hrl HY3.out (by decide) (by decide))
 have HT4:=hide (HT3.out.trans st4)
 clear HC2 HM3 HT3 HY3 st4 r0 r3 r5 r6 r7 r9 r10 r11 r12
 obtain⟨W5,hW5⟩:=named (w4.setCell ⟨rb,11,none⟩ (.int .i64 (c:Int)))
 have fz:=rn_free HY4.out
 obtain⟨r0,r3,r5,r6,r7,r9,r10,r11,r12⟩:=rn_cells HY4.out
 have HM5:Hid (MB W5 mb g s.newL.newC):=by show MB _ _ _ _;rw[hW5];exact h4.other HY4.out (by omega) (by decide) (by decide) (by decide) _ _
 have HT5:Hid (Step mb w W5):=by show Step _ _ _;rw[hW5];exact HT4.out.other (by have:=HRG.out;have:=HNB.out;omega) hrl _ _
 have HY5:Hid (W5.heap[rb]? =some (rnO mb n true true c l)):=by show _=_;rw[hW5];exact rn_done HY4.out _
 go_upto_region 5 with fail
 rw[← hW5]
 clear hW5 fz r0 r3 r5 r6 r7 r9 r10 r11 r12 h4 HT4 HY4
 have HC3:=hide (all_any HM5.out rb hrl n v x true true c l HY5.out HKA.out HKL.out (fun W hW=>HK.out W (HT5.out.trans hW)) f HUf.out (fun W s hW hM hh=>HF.out W s (HT5.out.trans hW) hM hh) (by have e0:=HN0.out;have e1:=HN1.out;have:=HS0.out.1;have:=HS0.out.2.1;have:=HS0.out.2.2;(try simp only[z5,z8]);omega) HCB.out HB1.out HB2.out HB3.out HFA.out)
 go_wp2_with fail
 refine HC3.out.mono ?_
 rintro e w6 ⟨rfl,h6,st6⟩
 have HH:=hide h6
 have HT6:=hide (HT5.out.trans st6)
 clear h6 st6 HC3
 go_wp2
 go_end0
 rw[HE.out]
 exact⟨rfl,HH.out,HT6.out⟩
variable {w w' : World} {mb : Nat} {g : Int} {s s' : MS}
theorem roundsB2(h:MB w mb g s)(n v:NV)(x:Addr)(F:FT)(hka:n.ka=some x)(hkl:n.kl=1)(hK:∀W,Step mb w W→NCells W x v)(hF:∀W,Step mb w W→Calls prog 64 #[nvV v] W fun e w'=>e=.returned (ftV F)∧Below W.heap.size W w')(f:MS→MS)(hu:Up f)(hf:DoesF mb g w 42 #[.pointer (some ⟨mb,0,none⟩),nvV v] f)(hl:0≤n.least)(hm:n.most= -1∨n.least≤n.most)(hm0:n.most≠0)(q1:¬0<n.least)(q2:0<n.most)(q3:¬n.least=n.most)(q4:¬F.least=0)(hs:(roundsM n.least n.most n.way F.least f s).fits):Calls prog 112 #[.pointer (some ⟨mb,0,none⟩),nvV n] w fun e w'=>MkE mb g (roundsM n.least n.most n.way F.least f s) w e w':=by
 have HCB:Hid (true=(decide (0<n.least)||decide (0<n.most))):=by show _=_;simp[q1,q2]
 have HWB:Hid (false=(!decide (n.least=n.most)&&decide (F.least=0))):=by show _=_;simp[q3,q4]
 have HE:Hid (roundsM n.least n.most n.way F.least f s=allM ⟨n.least,n.most,n.way,true,false,s.cnt,s.lab.length⟩ f s.newL.newC):=by show _=_;unfold roundsM;dsimp only;rw[← HCB.out, ←HWB.out];rfl
 have HS0:=hide ((rounds_up _ _ _ _ hu s).fits hs)
 have HF:=hide hf
 have HK:=hide hK
 have HUf:=hide hu
 have HKA:=hide hka
 have HKL:=hide hkl
 have hlt:=h.lt
 have HFA:Hid (allM ⟨n.least,n.most,n.way,true,false,s.cnt,s.lab.length⟩ f s.newL.newC).fits:=by have hh:=hs;rw[HE.out]at hh;exact hh
 obtain⟨c,hc⟩:=named s.cnt
 have HN0:=hide hc
 clear hc
 obtain⟨l,hl⟩:=named s.lab.length
 have HN1:=hide hl
 clear hl
 rw[← HN1.out, ←HN0.out]at HE HFA
 have HFc:=hide hF
 have HB1:=hide (show 0≤n.least from hl)
 have HB2:=hide hm
 have HB3:=hide hm0
 obtain⟨W0,hW0⟩:=named (w.alloc (nvO n))
 have hb0:Below w.heap.size w W0:=by rw[hW0];exact allocB _ _
 have hx0:W0.heap[w.heap.size]? =some (nvO n):=by rw[hW0];exact at_new _ _
 have h0:=h.keep hb0
 have HT0:=hide (Step.of_below hb0 hlt)
 obtain⟨nb,hnb⟩:=named w.heap.size
 have hnl:mb<nb:=by omega
 have HNB:=hide hnb
 rw[← hnb]at hx0
 have HX0:=hide hx0
 simp only[nvO]at hW0
 have HS:Hid (Step mb W0 W0.drew):=Step.of_below (drew1 W0) h0.lt
 have HC1:=hide (newL_at (h0.keep (drew1 W0)) l (by have e0:=HN0.out;have e1:=HN1.out;have:=HS0.out.1;have:=HS0.out.2.1;have:=HS0.out.2.2;(try simp only[z1,z2,z3,z4,z5,z6,z7,z8,z9,za,zb,zc]);omega) (by have e0:=HN0.out;have e1:=HN1.out;have:=HS0.out.1;have:=HS0.out.2.1;have:=HS0.out.2.2;(try simp only[z1,z2,z3,z4,z5,z6,z7,z8,z9,za,zb,zc]);omega))
 have hw0:W0.heap.size=nb+1:=by rw[hW0,hnb];simp
 have HW0:=hide hw0
 have b3:(n.least==n.most)=false:=by simpa using q3
 have b5:(n.least !=n.most)=true:=by simpa using q3
 have b4:(F.least==0)=false:=by simpa using q4
 clear hf hs hu h hK hx0 hb0 hka hkl hF h0 hl hm hm0 hw0 q4
 go_enter func112,ntmps112
 go_upto_region 1 with fail
 rw[← hW0, ←hnb]
 clear hW0 hnb
 refine wp_region_held (S:=fun w'=>Step mb W0 w') (by kernel_rfl) ?_
 change wpAnyH _ _ _ _ _ _ _ _ (World.drew _)
 refine takeH 0 (.pointer (some ⟨mb,0,none⟩)) rfl (fun _ _ _ h=>h) HS.out (fun w' hS=>?_) ?_
 ·go_simp
 refine takeH 1 (nvV n) rfl (fun _ _ _ h=>h) HS.out (fun w' hS=>?_) ?_
 ·(obtain⟨d0,d1,d2,d3,d4,d5,d6,d7⟩:=nv_cells (hS.blk hnl HX0.out (by decide) (by decide));simp only[Nat.zero_add]at d0 d1 d2 d3 d4 d5 d6 d7;go_simp)
 refine takeH 2 (.pointer (some ⟨nb,4,none⟩)) rfl (fun _ _ _ h=>h) HS.out (fun w' hS=>?_) ?_
 ·go_simp
 refine takeH 3 (.int .i64 n.least) rfl (fun _ _ _ h=>h) HS.out (fun w' hS=>?_) ?_
 ·(obtain⟨d0,d1,d2,d3,d4,d5,d6,d7⟩:=nv_cells (hS.blk hnl HX0.out (by decide) (by decide));simp only[Nat.zero_add]at d0 d1 d2 d3 d4 d5 d6 d7;go_simp)
 refine takeH 4 (.bool false) rfl (fun _ _ _ h=>h) HS.out (fun w' hS=>?_) ?_
 ·go_simp
 refine takeH 5 (.bool false) rfl (fun _ _ _ h=>h) HS.out (fun w' hS=>?_) ?_
 ·go_simp
 refine takeH 6 (.pointer (some ⟨nb,5,none⟩)) rfl (fun _ _ _ h=>h) HS.out (fun w' hS=>?_) ?_
 ·go_simp
 refine takeH 7 (.int .i64 n.most) rfl (fun _ _ _ h=>h) HS.out (fun w' hS=>?_) ?_
 ·(obtain⟨d0,d1,d2,d3,d4,d5,d6,d7⟩:=nv_cells (hS.blk hnl HX0.out (by decide) (by decide));simp only[Nat.zero_add]at d0 d1 d2 d3 d4 d5 d6 d7;go_simp)
 refine takeH 8 (.bool true) rfl (fun _ _ _ h=>h) HS.out (fun w' hS=>?_) ?_
 ·go_simp
 refine takeH 9 (.bool true) rfl (fun _ _ _ h=>h) HS.out (fun w' hS=>?_) ?_
 ·go_simp
 refine takeH 10 (.pointer (some ⟨mb,0,none⟩)) rfl (fun _ _ _ h=>h) HS.out (fun w' hS=>?_) ?_
 ·go_simp
 refine wpAnyH_ready (rs:=[11]) (by kernel_rfl) (by simp) ?_
 refine AllReadyH.cons rfl (fun K hK=>?_) AllReadyH.nil
 go_simp
 refine HC1.out.mono ?_
 rintro e w1 ⟨rfl,h1,st1⟩
 have HTx:=hide (HS.out.trans st1)
 refine hK.out _ _ HTx.out (fun _=>?_)
 clear hK K
 have HT1:=hide (HT0.out.trans HTx.out)
 have HX1:=hide (HTx.out.blk hnl HX0.out (by decide) (by decide))
 refine takeH 12 (.agg #[.pointer (some ⟨mb,0,none⟩),.int .i64 n.kind,.slice n.sa n.sl n.sc,.slice n.ka n.kl n.kc,.int .i64 n.num,.int .i64 n.least,.int .i64 n.most,.int .i64 n.way,.bool n.fold,.bool true,.bool false,.int .i64 0,.int .i64 (l:Int)]) rfl (fun _ _ _ h=>h) HTx.out (fun w' hS=>?_) ?_
 ·go_simp
 refine wpAnyH_ready (rs:=[13]) (by kernel_rfl) (by simp) ?_
 refine AllReadyH.cons rfl (fun K hK=>?_) AllReadyH.nil
 go_simp
 obtain⟨W2,hW2⟩:=named (w1.alloc (rnO mb n true false 0 l))
 have hb2:Below w1.heap.size w1 W2:=by rw[hW2];exact allocB _ _
 have hy2:W2.heap[w1.heap.size]? =some (rnO mb n true false 0 l):=by rw[hW2];exact at_new _ _
 have hs2:=Step.of_below hb2 h1.lt
 have h2:=h1.keep hb2
 have HT2:=hide (HT1.out.trans hs2)
 have HTy:=hide (HTx.out.trans hs2)
 have HX2:=hide (hs2.blk hnl HX1.out (by decide) (by decide))
 obtain⟨rb,hrb⟩:=named w1.heap.size
 have hrl:mb<rb:=by have:=h1.lt;omega
 have HRG:Hid (nb<rb):=by have h5:=HTx.out.size;have h6:=HW0.out;show nb<rb;omega
 rw[← hrb]at hy2
 have HY2:=hide hy2
 simp only[rnO]at hW2
 rw[show ((0:Nat):Int)=0 from rfl]at hW2
 rw[← hW2, ←hrb]
 refine hK.out _ _ HTy.out (fun _=>?_)
 clear hK K
 refine takeH 14 (.pointer (some ⟨rb,0,none⟩)) rfl (fun _ _ _ h=>h) HTy.out (fun w' hS=>?_) ?_
 ·go_simp
 refine wpAnyH_done (by kernel_rfl) ?_ _
 clear HC1 HT0 HT1 HTx HTy HX0 HX1 h1 st1 hb2 hs2 hW2 hrb hy2 HS
 obtain⟨d0,d1,d2,d3,d4,d5,d6,d7⟩:=nv_cells HX2.out
 simp only[Nat.zero_add]at d0 d1 d2 d3 d4 d5 d6 d7
 rw[HKA.out,HKL.out]at d2
 obtain⟨k0,k1,k2,k3,k4,k5,k6,k7⟩:=HK.out _ HT2.out
 have HCf:=hide (HFc.out W2 HT2.out)
 go_wp2_with fail
 refine HCf.out.mono ?_
 rintro e W2b ⟨rfl,hbb⟩
 have hsb:=Step.of_below hbb h2.lt
 have h2b:=h2.keep hbb
 have HT2b:=hide (HT2.out.trans hsb)
 have HY2b:=hide (hsb.blk hrl HY2.out (by decide) (by decide))
 clear HCf k0 k1 k2 k3 k4 k5 k6 k7 d0 d1 d2 d3 d4 d5 d6 d7 hbb hsb h2 HT2 HY2 HX2
 obtain⟨W3,hW3⟩:=named (W2b.setCell ⟨rb,10,none⟩ (.bool false))
 have fz:=rn_free HY2b.out
 obtain⟨r0,r3,r5,r6,r7,r9,r10,r11,r12⟩:=rn_cells HY2b.out
 have HM3:Hid (MB W3 mb g s.newL):=by show MB _ _ _ _;rw[hW3];exact h2b.other HY2b.out (by omega) (by decide) (by decide) (by decide) _ _
 have HT3:Hid (Step mb w W3):=by show Step _ _ _;rw[hW3];exact HT2b.out.other (by have:=HRG.out;have:=HNB.out;omega) hrl _ _
 have HY3:Hid (W3.heap[rb]? =some (rnO mb n true false 0 l)):=by show _=_;rw[hW3];exact rn_watch HY2b.out _
 obtain⟨Fl,Fm,Fp⟩:=F
 simp only[ftV]at b4 ⊢
 have hfd:∀W:World,(Instr.field 127 (.agg #[.int .i64 Fl,.int .i64 Fm,.bool Fp]) 0).run prog W=.ok (.int .i64 Fl) W:=fun W=>by rfl
 go_upto_region 3 with fail
 rw[← hW3]
 clear hW3 fz r0 r3 r5 r6 r7 r9 r10 r11 r12 h2b HT2b HY2b
 obtain⟨r0,r3,r5,r6,r7,r9,r10,r11,r12⟩:=rn_cells HY3.out
 have HC2:=hide (newC_at HM3.out c (by have e0:=HN0.out;have e1:=HN1.out;have:=HS0.out.1;have:=HS0.out.2.1;have:=HS0.out.2.2;(try simp only[z9]);omega) (by have e0:=HN0.out;have e1:=HN1.out;have:=HS0.out.1;have:=HS0.out.2.1;have:=HS0.out.2.2;(try simp only[z1,z2,z3,z4,z5,z6,z7,z8,z9,za,zb,zc]);omega))
 go_wp2_with fail
 refine HC2.out.mono ?_
 rintro e w4 ⟨rfl,h4,st4⟩
 have HY4:=hide (st4.blk hrl HY3.out (by decide) (by decide))
 have HT4:=hide (HT3.out.trans st4)
 clear HC2 HM3 HT3 HY3 st4 r0 r3 r5 r6 r7 r9 r10 r11 r12
 obtain⟨W5,hW5⟩:=named (w4.setCell ⟨rb,11,none⟩ (.int .i64 (c:Int)))
 have fz:=rn_free HY4.out
 obtain⟨r0,r3,r5,r6,r7,r9,r10,r11,r12⟩:=rn_cells HY4.out
 have HM5:Hid (MB W5 mb g s.newL.newC):=by show MB _ _ _ _;rw[hW5];exact h4.other HY4.out (by omega) (by decide) (by decide) (by decide) _ _
 have HT5:Hid (Step mb w W5):=by show Step _ _ _;rw[hW5];exact HT4.out.other (by have:=HRG.out;have:=HNB.out;omega) hrl _ _
 have HY5:Hid (W5.heap[rb]? =some (rnO mb n true false c l)):=by show _=_;rw[hW5];exact rn_done HY4.out _
 go_upto_region 5 with fail
 rw[← hW5]
 clear hW5 fz r0 r3 r5 r6 r7 r9 r10 r11 r12 h4 HT4 HY4
 have HC3:=hide (all_any HM5.out rb hrl n v x true false c l HY5.out HKA.out HKL.out (fun W hW=>HK.out W (HT5.out.trans hW)) f HUf.out (fun W s hW hM hh=>HF.out W s (HT5.out.trans hW) hM hh) (by have e0:=HN0.out;have e1:=HN1.out;have:=HS0.out.1;have:=HS0.out.2.1;have:=HS0.out.2.2;(try simp only[z5,z8]);omega) HCB.out HB1.out HB2.out HB3.out HFA.out)
 go_wp2_with fail
 refine HC3.out.mono ?_
 rintro e w6 ⟨rfl,h6,st6⟩
 have HH:=hide h6
 have HT6:=hide (HT5.out.trans st6)
 clear h6 st6 HC3
 go_wp2
 go_end0
 rw[HE.out]
 exact⟨rfl,HH.out,HT6.out⟩
variable {w w' : World} {mb : Nat} {g : Int} {s s' : MS}
theorem roundsC1(h:MB w mb g s)(n v:NV)(x:Addr)(F:FT)(hka:n.ka=some x)(hkl:n.kl=1)(hK:∀W,Step mb w W→NCells W x v)(hF:∀W,Step mb w W→Calls prog 64 #[nvV v] W fun e w'=>e=.returned (ftV F)∧Below W.heap.size W w')(f:MS→MS)(hu:Up f)(hf:DoesF mb g w 42 #[.pointer (some ⟨mb,0,none⟩),nvV v] f)(hl:0≤n.least)(hm:n.most= -1∨n.least≤n.most)(hm0:n.most≠0)(q1:¬0<n.least)(q2:¬0<n.most)(q3:¬n.least=n.most)(q4:F.least=0)(hs:(roundsM n.least n.most n.way F.least f s).fits):Calls prog 112 #[.pointer (some ⟨mb,0,none⟩),nvV n] w fun e w'=>MkE mb g (roundsM n.least n.most n.way F.least f s) w e w':=by
 have HCB:Hid (false=(decide (0<n.least)||decide (0<n.most))):=by show _=_;simp[q1,q2]
 have HWB:Hid (true=(!decide (n.least=n.most)&&decide (F.least=0))):=by show _=_;simp[q3,q4]
 have HE:Hid (roundsM n.least n.most n.way F.least f s=allM ⟨n.least,n.most,n.way,false,true,s.cnt,s.lab.length⟩ f s.newL.newC):=by show _=_;unfold roundsM;dsimp only;rw[← HCB.out, ←HWB.out];rfl
 have HS0:=hide ((rounds_up _ _ _ _ hu s).fits hs)
 have HF:=hide hf
 have HK:=hide hK
 have HUf:=hide hu
 have HKA:=hide hka
 have HKL:=hide hkl
 have hlt:=h.lt
 have HFA:Hid (allM ⟨n.least,n.most,n.way,false,true,s.cnt,s.lab.length⟩ f s.newL.newC).fits:=by have hh:=hs;rw[HE.out]at hh;exact hh
 obtain⟨c,hc⟩:=named s.cnt
 have HN0:=hide hc
 clear hc
 obtain⟨l,hl⟩:=named s.lab.length
 have HN1:=hide hl
 clear hl
 rw[← HN1.out, ←HN0.out]at HE HFA
 have HFc:=hide hF
 have HB1:=hide (show 0≤n.least from hl)
 have HB2:=hide hm
 have HB3:=hide hm0
 obtain⟨W0,hW0⟩:=named (w.alloc (nvO n))
 have hb0:Below w.heap.size w W0:=by rw[hW0];exact allocB _ _
 have hx0:W0.heap[w.heap.size]? =some (nvO n):=by rw[hW0];exact at_new _ _
 have h0:=h.keep hb0
 have HT0:=hide (Step.of_below hb0 hlt)
 obtain⟨nb,hnb⟩:=named w.heap.size
 have hnl:mb<nb:=by omega
 have HNB:=hide hnb
 rw[← hnb]at hx0
 have HX0:=hide hx0
 simp only[nvO]at hW0
 have HS:Hid (Step mb W0 W0.drew):=Step.of_below (drew1 W0) h0.lt
 have HC1:=hide (newL_at (h0.keep (drew1 W0)) l (by have e0:=HN0.out;have e1:=HN1.out;have:=HS0.out.1;have:=HS0.out.2.1;have:=HS0.out.2.2;(try simp only[z1,z2,z3,z4,z5,z6,z7,z8,z9,za,zb,zc]);omega) (by have e0:=HN0.out;have e1:=HN1.out;have:=HS0.out.1;have:=HS0.out.2.1;have:=HS0.out.2.2;(try simp only[z1,z2,z3,z4,z5,z6,z7,z8,z9,za,zb,zc]);omega))
 have hw0:W0.heap.size=nb+1:=by rw[hW0,hnb];simp
 have HW0:=hide hw0
 have b3:(n.least==n.most)=false:=by simpa using q3
 have b5:(n.least !=n.most)=true:=by simpa using q3
 have b4:(F.least==0)=true:=by simpa using q4
 clear hf hs hu h hK hx0 hb0 hka hkl hF h0 hl hm hm0 hw0 q4
 go_enter func112,ntmps112
 go_upto_region 1 with fail
 rw[← hW0, ←hnb]
 clear hW0 hnb
 refine wp_region_held (S:=fun w'=>Step mb W0 w') (by kernel_rfl) ?_
 change wpAnyH _ _ _ _ _ _ _ _ (World.drew _)
 refine takeH 0 (.pointer (some ⟨mb,0,none⟩)) rfl (fun _ _ _ h=>h) HS.out (fun w' hS=>?_) ?_
 ·go_simp
 refine takeH 1 (nvV n) rfl (fun _ _ _ h=>h) HS.out (fun w' hS=>?_) ?_
 ·(obtain⟨d0,d1,d2,d3,d4,d5,d6,d7⟩:=nv_cells (hS.blk hnl HX0.out (by decide) (by decide));simp only[Nat.zero_add]at d0 d1 d2 d3 d4 d5 d6 d7;go_simp)
 refine takeH 2 (.pointer (some ⟨nb,4,none⟩)) rfl (fun _ _ _ h=>h) HS.out (fun w' hS=>?_) ?_
 ·go_simp
 refine takeH 3 (.int .i64 n.least) rfl (fun _ _ _ h=>h) HS.out (fun w' hS=>?_) ?_
 ·(obtain⟨d0,d1,d2,d3,d4,d5,d6,d7⟩:=nv_cells (hS.blk hnl HX0.out (by decide) (by decide));simp only[Nat.zero_add]at d0 d1 d2 d3 d4 d5 d6 d7;go_simp)
 refine takeH 4 (.bool false) rfl (fun _ _ _ h=>h) HS.out (fun w' hS=>?_) ?_
 ·go_simp
 refine takeH 5 (.bool false) rfl (fun _ _ _ h=>h) HS.out (fun w' hS=>?_) ?_
 ·go_simp
 refine takeH 6 (.pointer (some ⟨nb,5,none⟩)) rfl (fun _ _ _ h=>h) HS.out (fun w' hS=>?_) ?_
 ·go_simp
 refine takeH 7 (.int .i64 n.most) rfl (fun _ _ _ h=>h) HS.out (fun w' hS=>?_) ?_
 ·(obtain⟨d0,d1,d2,d3,d4,d5,d6,d7⟩:=nv_cells (hS.blk hnl HX0.out (by decide) (by decide));simp only[Nat.zero_add]at d0 d1 d2 d3 d4 d5 d6 d7;go_simp)
 refine takeH 8 (.bool false) rfl (fun _ _ _ h=>h) HS.out (fun w' hS=>?_) ?_
 ·go_simp
 refine takeH 9 (.bool false) rfl (fun _ _ _ h=>h) HS.out (fun w' hS=>?_) ?_
 ·go_simp
 refine takeH 10 (.pointer (some ⟨mb,0,none⟩)) rfl (fun _ _ _ h=>h) HS.out (fun w' hS=>?_) ?_
 ·go_simp
 refine wpAnyH_ready (rs:=[11]) (by kernel_rfl) (by simp) ?_
 refine AllReadyH.cons rfl (fun K hK=>?_) AllReadyH.nil
 go_simp
 refine HC1.out.mono ?_
 rintro e w1 ⟨rfl,h1,st1⟩
 have HTx:=hide (HS.out.trans st1)
 refine hK.out _ _ HTx.out (fun _=>?_)
 clear hK K
 have HT1:=hide (HT0.out.trans HTx.out)
 have HX1:=hide (HTx.out.blk hnl HX0.out (by decide) (by decide))
 refine takeH 12 (.agg #[.pointer (some ⟨mb,0,none⟩),.int .i64 n.kind,.slice n.sa n.sl n.sc,.slice n.ka n.kl n.kc,.int .i64 n.num,.int .i64 n.least,.int .i64 n.most,.int .i64 n.way,.bool n.fold,.bool false,.bool false,.int .i64 0,.int .i64 (l:Int)]) rfl (fun _ _ _ h=>h) HTx.out (fun w' hS=>?_) ?_
 ·go_simp
 refine wpAnyH_ready (rs:=[13]) (by kernel_rfl) (by simp) ?_
 refine AllReadyH.cons rfl (fun K hK=>?_) AllReadyH.nil
 go_simp
 obtain⟨W2,hW2⟩:=named (w1.alloc (rnO mb n false false 0 l))
 have hb2:Below w1.heap.size w1 W2:=by rw[hW2];exact allocB _ _
 have hy2:W2.heap[w1.heap.size]? =some (rnO mb n false false 0 l):=by rw[hW2];exact at_new _ _
 have hs2:=Step.of_below hb2 h1.lt
 have h2:=h1.keep hb2
 have HT2:=hide (HT1.out.trans hs2)
 have HTy:=hide (HTx.out.trans hs2)
 have HX2:=hide (hs2.blk hnl HX1.out (by decide) (by decide))
 obtain⟨rb,hrb⟩:=named w1.heap.size
 have hrl:mb<rb:=by have:=h1.lt;omega
 have HRG:Hid (nb<rb):=by have h5:=HTx.out.size;have h6:=HW0.out;show nb<rb;omega
 rw[← hrb]at hy2
 have HY2:=hide hy2
 simp only[rnO]at hW2
 rw[show ((0:Nat):Int)=0 from rfl]at hW2
 rw[← hW2, ←hrb]
 refine hK.out _ _ HTy.out (fun _=>?_)
 clear hK K
 refine takeH 14 (.pointer (some ⟨rb,0,none⟩)) rfl (fun _ _ _ h=>h) HTy.out (fun w' hS=>?_) ?_
 ·go_simp
 refine wpAnyH_done (by kernel_rfl) ?_ _
 clear HC1 HT0 HT1 HTx HTy HX0 HX1 h1 st1 hb2 hs2 hW2 hrb hy2 HS
 obtain⟨d0,d1,d2,d3,d4,d5,d6,d7⟩:=nv_cells HX2.out
 simp only[Nat.zero_add]at d0 d1 d2 d3 d4 d5 d6 d7
 rw[HKA.out,HKL.out]at d2
 obtain⟨k0,k1,k2,k3,k4,k5,k6,k7⟩:=HK.out _ HT2.out
 have HCf:=hide (HFc.out W2 HT2.out)
 go_wp2_with fail
 refine HCf.out.mono ?_
 rintro e W2b ⟨rfl,hbb⟩
 have hsb:=Step.of_below hbb h2.lt
 have h2b:=h2.keep hbb
 have HT2b:=hide (HT2.out.trans hsb)
 have HY2b:=hide (hsb.blk hrl HY2.out (by decide) (by decide))
 clear HCf k0 k1 k2 k3 k4 k5 k6 k7 d0 d1 d2 d3 d4 d5 d6 d7 hbb hsb h2 HT2 HY2 HX2
 obtain⟨W3,hW3⟩:=named (W2b.setCell ⟨rb,10,none⟩ (.bool true))
 have fz:=rn_free HY2b.out
 obtain⟨r0,r3,r5,r6,r7,r9,r10,r11,r12⟩:=rn_cells HY2b.out
 have HM3:Hid (MB W3 mb g s.newL):=by show MB _ _ _ _;rw[hW3];exact h2b.other HY2b.out (by omega) (by decide) (by decide) (by decide) _ _
 have HT3:Hid (Step mb w W3):=by show Step _ _ _;rw[hW3];exact HT2b.out.other (by have:=HRG.out;have:=HNB.out;omega) hrl _ _
 have HY3:Hid (W3.heap[rb]? =some (rnO mb n false true 0 l)):=by show _=_;rw[hW3];exact rn_watch HY2b.out _
 obtain⟨Fl,Fm,Fp⟩:=F
 simp only[ftV]at b4 ⊢
 have hfd:∀W:World,(Instr.field 127 (.agg #[.int .i64 Fl,.int .i64 Fm,.bool Fp]) 0).run prog W=.ok (.int .i64 Fl) W:=fun W=>by rfl
 go_upto_region 3 with fail
 rw[← hW3]
 clear hW3 fz r0 r3 r5 r6 r7 r9 r10 r11 r12 h2b HT2b HY2b
 obtain⟨r0,r3,r5,r6,r7,r9,r10,r11,r12⟩:=rn_cells HY3.out
 have HC2:=hide (newC_at HM3.out c (by have e0:=HN0.out;have e1:=HN1.out;have:=HS0.out.1;have:=HS0.out.2.1;have:=HS0.out.2.2;(try simp only[z9]);omega) (by have e0:=HN0.out;have e1:=HN1.out;have:=HS0.out.1;have:=HS0.out.2.1;have:=HS0.out.2.2;(try simp only[z1,z2,z3,z4,z5,z6,z7,z8,z9,za,zb,zc]);omega))
 go_wp2_with fail
 refine HC2.out.mono ?_
 rintro e w4 ⟨rfl,h4,st4⟩
 have HY4:=hide (st4.blk hrl HY3.out (by decide) (by decide))
 have HT4:=hide (HT3.out.trans st4)
 clear HC2 HM3 HT3 HY3 st4 r0 r3 r5 r6 r7 r9 r10 r11 r12
 obtain⟨W5,hW5⟩:=named (w4.setCell ⟨rb,11,none⟩ (.int .i64 (c:Int)))
 have fz:=rn_free HY4.out
 obtain⟨r0,r3,r5,r6,r7,r9,r10,r11,r12⟩:=rn_cells HY4.out
 have HM5:Hid (MB W5 mb g s.newL.newC):=by show MB _ _ _ _;rw[hW5];exact h4.other HY4.out (by omega) (by decide) (by decide) (by decide) _ _
 have HT5:Hid (Step mb w W5):=by show Step _ _ _;rw[hW5];exact HT4.out.other (by have:=HRG.out;have:=HNB.out;omega) hrl _ _
 have HY5:Hid (W5.heap[rb]? =some (rnO mb n false true c l)):=by show _=_;rw[hW5];exact rn_done HY4.out _
 go_upto_region 5 with fail
 rw[← hW5]
 clear hW5 fz r0 r3 r5 r6 r7 r9 r10 r11 r12 h4 HT4 HY4
 have HC3:=hide (all_any HM5.out rb hrl n v x false true c l HY5.out HKA.out HKL.out (fun W hW=>HK.out W (HT5.out.trans hW)) f HUf.out (fun W s hW hM hh=>HF.out W s (HT5.out.trans hW) hM hh) (by have e0:=HN0.out;have e1:=HN1.out;have:=HS0.out.1;have:=HS0.out.2.1;have:=HS0.out.2.2;(try simp only[z5,z8]);omega) HCB.out HB1.out HB2.out HB3.out HFA.out)
 go_wp2_with fail
 refine HC3.out.mono ?_
 rintro e w6 ⟨rfl,h6,st6⟩
 have HH:=hide h6
 have HT6:=hide (HT5.out.trans st6)
 clear h6 st6 HC3
 go_wp2
 go_end0
 rw[HE.out]
 exact⟨rfl,HH.out,HT6.out⟩
variable {w w' : World} {mb : Nat} {g : Int} {s s' : MS}
theorem roundsC2(h:MB w mb g s)(n v:NV)(x:Addr)(F:FT)(hka:n.ka=some x)(hkl:n.kl=1)(hK:∀W,Step mb w W→NCells W x v)(hF:∀W,Step mb w W→Calls prog 64 #[nvV v] W fun e w'=>e=.returned (ftV F)∧Below W.heap.size W w')(f:MS→MS)(hu:Up f)(hf:DoesF mb g w 42 #[.pointer (some ⟨mb,0,none⟩),nvV v] f)(hl:0≤n.least)(hm:n.most= -1∨n.least≤n.most)(hm0:n.most≠0)(q1:¬0<n.least)(q2:¬0<n.most)(q3:¬n.least=n.most)(q4:¬F.least=0)(hs:(roundsM n.least n.most n.way F.least f s).fits):Calls prog 112 #[.pointer (some ⟨mb,0,none⟩),nvV n] w fun e w'=>MkE mb g (roundsM n.least n.most n.way F.least f s) w e w':=by
 have HCB:Hid (false=(decide (0<n.least)||decide (0<n.most))):=by show _=_;simp[q1,q2]
 have HWB:Hid (false=(!decide (n.least=n.most)&&decide (F.least=0))):=by show _=_;simp[q3,q4]
 have HE:Hid (roundsM n.least n.most n.way F.least f s=allM ⟨n.least,n.most,n.way,false,false,0,s.lab.length⟩ f s.newL):=by show _=_;unfold roundsM;dsimp only;rw[← HCB.out, ←HWB.out];rfl
 have HS0:=hide ((rounds_up _ _ _ _ hu s).fits hs)
 have HF:=hide hf
 have HK:=hide hK
 have HUf:=hide hu
 have HKA:=hide hka
 have HKL:=hide hkl
 have hlt:=h.lt
 have HFA:Hid (allM ⟨n.least,n.most,n.way,false,false,0,s.lab.length⟩ f s.newL).fits:=by have hh:=hs;rw[HE.out]at hh;exact hh
 obtain⟨c,hc⟩:=named s.cnt
 have HN0:=hide hc
 clear hc
 obtain⟨l,hl⟩:=named s.lab.length
 have HN1:=hide hl
 clear hl
 rw[← HN1.out]at HE HFA
 have HFc:=hide hF
 have HB1:=hide (show 0≤n.least from hl)
 have HB2:=hide hm
 have HB3:=hide hm0
 obtain⟨W0,hW0⟩:=named (w.alloc (nvO n))
 have hb0:Below w.heap.size w W0:=by rw[hW0];exact allocB _ _
 have hx0:W0.heap[w.heap.size]? =some (nvO n):=by rw[hW0];exact at_new _ _
 have h0:=h.keep hb0
 have HT0:=hide (Step.of_below hb0 hlt)
 obtain⟨nb,hnb⟩:=named w.heap.size
 have hnl:mb<nb:=by omega
 have HNB:=hide hnb
 rw[← hnb]at hx0
 have HX0:=hide hx0
 simp only[nvO]at hW0
 have HS:Hid (Step mb W0 W0.drew):=Step.of_below (drew1 W0) h0.lt
 have HC1:=hide (newL_at (h0.keep (drew1 W0)) l (by have e0:=HN0.out;have e1:=HN1.out;have:=HS0.out.1;have:=HS0.out.2.1;have:=HS0.out.2.2;(try simp only[z1,z2,z3,z4,z5,z6,z7,z8,z9,za,zb,zc]);omega) (by have e0:=HN0.out;have e1:=HN1.out;have:=HS0.out.1;have:=HS0.out.2.1;have:=HS0.out.2.2;(try simp only[z1,z2,z3,z4,z5,z6,z7,z8,z9,za,zb,zc]);omega))
 have hw0:W0.heap.size=nb+1:=by rw[hW0,hnb];simp
 have HW0:=hide hw0
 have b3:(n.least==n.most)=false:=by simpa using q3
 have b5:(n.least !=n.most)=true:=by simpa using q3
 have b4:(F.least==0)=false:=by simpa using q4
 clear hf hs hu h hK hx0 hb0 hka hkl hF h0 hl hm hm0 hw0 q4
 go_enter func112,ntmps112
 go_upto_region 1 with fail
 rw[← hW0, ←hnb]
 clear hW0 hnb
 refine wp_region_held (S:=fun w'=>Step mb W0 w') (by kernel_rfl) ?_
 change wpAnyH _ _ _ _ _ _ _ _ (World.drew _)
 refine takeH 0 (.pointer (some ⟨mb,0,none⟩)) rfl (fun _ _ _ h=>h) HS.out (fun w' hS=>?_) ?_
 ·go_simp
 refine takeH 1 (nvV n) rfl (fun _ _ _ h=>h) HS.out (fun w' hS=>?_) ?_
 ·(obtain⟨d0,d1,d2,d3,d4,d5,d6,d7⟩:=nv_cells (hS.blk hnl HX0.out (by decide) (by decide));simp only[Nat.zero_add]at d0 d1 d2 d3 d4 d5 d6 d7;go_simp)
 refine takeH 2 (.pointer (some ⟨nb,4,none⟩)) rfl (fun _ _ _ h=>h) HS.out (fun w' hS=>?_) ?_
 ·go_simp
 refine takeH 3 (.int .i64 n.least) rfl (fun _ _ _ h=>h) HS.out (fun w' hS=>?_) ?_
 ·(obtain⟨d0,d1,d2,d3,d4,d5,d6,d7⟩:=nv_cells (hS.blk hnl HX0.out (by decide) (by decide));simp only[Nat.zero_add]at d0 d1 d2 d3 d4 d5 d6 d7;go_simp)
 refine takeH 4 (.bool false) rfl (fun _ _ _ h=>h) HS.out (fun w' hS=>?_) ?_
 ·go_simp
 refine takeH 5 (.bool false) rfl (fun _ _ _ h=>h) HS.out (fun w' hS=>?_) ?_
 ·go_simp
 refine takeH 6 (.pointer (some ⟨nb,5,none⟩)) rfl (fun _ _ _ h=>h) HS.out (fun w' hS=>?_) ?_
 ·go_simp
 refine takeH 7 (.int .i64 n.most) rfl (fun _ _ _ h=>h) HS.out (fun w' hS=>?_) ?_
 ·(obtain⟨d0,d1,d2,d3,d4,d5,d6,d7⟩:=nv_cells (hS.blk hnl HX0.out (by decide) (by decide));simp only[Nat.zero_add]at d0 d1 d2 d3 d4 d5 d6 d7;go_simp)
 refine takeH 8 (.bool false) rfl (fun _ _ _ h=>h) HS.out (fun w' hS=>?_) ?_
 ·go_simp
 refine takeH 9 (.bool false) rfl (fun _ _ _ h=>h) HS.out (fun w' hS=>?_) ?_
 ·go_simp
 refine takeH 10 (.pointer (some ⟨mb,0,none⟩)) rfl (fun _ _ _ h=>h) HS.out (fun w' hS=>?_) ?_
 ·go_simp
 refine wpAnyH_ready (rs:=[11]) (by kernel_rfl) (by simp) ?_
 refine AllReadyH.cons rfl (fun K hK=>?_) AllReadyH.nil
 go_simp
 refine HC1.out.mono ?_
 rintro e w1 ⟨rfl,h1,st1⟩
 have HTx:=hide (HS.out.trans st1)
 refine hK.out _ _ HTx.out (fun _=>?_)
 clear hK K
 have HT1:=hide (HT0.out.trans HTx.out)
 have HX1:=hide (HTx.out.blk hnl HX0.out (by decide) (by decide))
 refine takeH 12 (.agg #[.pointer (some ⟨mb,0,none⟩),.int .i64 n.kind,.slice n.sa n.sl n.sc,.slice n.ka n.kl n.kc,.int .i64 n.num,.int .i64 n.least,.int .i64 n.most,.int .i64 n.way,.bool n.fold,.bool false,.bool false,.int .i64 0,.int .i64 (l:Int)]) rfl (fun _ _ _ h=>h) HTx.out (fun w' hS=>?_) ?_
 ·go_simp
 refine wpAnyH_ready (rs:=[13]) (by kernel_rfl) (by simp) ?_
 refine AllReadyH.cons rfl (fun K hK=>?_) AllReadyH.nil
 go_simp
 obtain⟨W2,hW2⟩:=named (w1.alloc (rnO mb n false false 0 l))
 have hb2:Below w1.heap.size w1 W2:=by rw[hW2];exact allocB _ _
 have hy2:W2.heap[w1.heap.size]? =some (rnO mb n false false 0 l):=by rw[hW2];exact at_new _ _
 have hs2:=Step.of_below hb2 h1.lt
 have h2:=h1.keep hb2
 have HT2:=hide (HT1.out.trans hs2)
 have HTy:=hide (HTx.out.trans hs2)
 have HX2:=hide (hs2.blk hnl HX1.out (by decide) (by decide))
 obtain⟨rb,hrb⟩:=named w1.heap.size
 have hrl:mb<rb:=by have:=h1.lt;omega
 have HRG:Hid (nb<rb):=by have h5:=HTx.out.size;have h6:=HW0.out;show nb<rb;omega
 rw[← hrb]at hy2
 have HY2:=hide hy2
 simp only[rnO]at hW2
 rw[show ((0:Nat):Int)=0 from rfl]at hW2
 rw[← hW2, ←hrb]
 refine hK.out _ _ HTy.out (fun _=>?_)
 clear hK K
 refine takeH 14 (.pointer (some ⟨rb,0,none⟩)) rfl (fun _ _ _ h=>h) HTy.out (fun w' hS=>?_) ?_
 ·go_simp
 refine wpAnyH_done (by kernel_rfl) ?_ _
 clear HC1 HT0 HT1 HTx HTy HX0 HX1 h1 st1 hb2 hs2 hW2 hrb hy2 HS
 obtain⟨d0,d1,d2,d3,d4,d5,d6,d7⟩:=nv_cells HX2.out
 simp only[Nat.zero_add]at d0 d1 d2 d3 d4 d5 d6 d7
 rw[HKA.out,HKL.out]at d2
 obtain⟨k0,k1,k2,k3,k4,k5,k6,k7⟩:=HK.out _ HT2.out
 have HCf:=hide (HFc.out W2 HT2.out)
 go_wp2_with fail
 refine HCf.out.mono ?_
 rintro e W2b ⟨rfl,hbb⟩
 have hsb:=Step.of_below hbb h2.lt
 have h2b:=h2.keep hbb
 have HT2b:=hide (HT2.out.trans hsb)
 have HY2b:=hide (hsb.blk hrl HY2.out (by decide) (by decide))
 clear HCf k0 k1 k2 k3 k4 k5 k6 k7 d0 d1 d2 d3 d4 d5 d6 d7 hbb hsb h2 HT2 HY2 HX2
 obtain⟨W3,hW3⟩:=named (W2b.setCell ⟨rb,10,none⟩ (.bool false))
 have fz:=rn_free HY2b.out
 obtain⟨r0,r3,r5,r6,r7,r9,r10,r11,r12⟩:=rn_cells HY2b.out
 have HM3:Hid (MB W3 mb g s.newL):=by show MB _ _ _ _;rw[hW3];exact h2b.other HY2b.out (by omega) (by decide) (by decide) (by decide) _ _
 have HT3:Hid (Step mb w W3):=by show Step _ _ _;rw[hW3];exact HT2b.out.other (by have:=HRG.out;have:=HNB.out;omega) hrl _ _
 have HY3:Hid (W3.heap[rb]? =some (rnO mb n false false 0 l)):=by show _=_;rw[hW3];exact rn_watch HY2b.out _
 obtain⟨Fl,Fm,Fp⟩:=F
 simp only[ftV]at b4 ⊢
 have hfd:∀W:World,(Instr.field 127 (.agg #[.int .i64 Fl,.int .i64 Fm,.bool Fp]) 0).run prog W=.ok (.int .i64 Fl) W:=fun W=>by rfl
 go_upto_region 3 with fail
 rw[← hW3]
 clear hW3 fz r0 r3 r5 r6 r7 r9 r10 r11 r12 h2b HT2b HY2b
 obtain⟨r0,r3,r5,r6,r7,r9,r10,r11,r12⟩:=rn_cells HY3.out
 have HC3:=hide (all_any HM3.out rb hrl n v x false false 0 l HY3.out HKA.out HKL.out (fun W hW=>HK.out W (HT3.out.trans hW)) f HUf.out (fun W s hW hM hh=>HF.out W s (HT3.out.trans hW) hM hh) (by have e0:=HN0.out;have e1:=HN1.out;have:=HS0.out.1;have:=HS0.out.2.1;have:=HS0.out.2.2;(try simp only[z8]);omega) HCB.out HB1.out HB2.out HB3.out HFA.out)
 go_wp2_with fail
 refine HC3.out.mono ?_
 rintro e w6 ⟨rfl,h6,st6⟩
 have HH:=hide h6
 have HT6:=hide (HT3.out.trans st6)
 clear h6 st6 HC3
 go_wp2
 go_end0
 rw[HE.out]
 exact⟨rfl,HH.out,HT6.out⟩
variable {w w' : World} {mb : Nat} {g : Int} {s s' : MS}
theorem rounds_any(h:MB w mb g s)(n v:NV)(x:Addr)(F:FT)(hka:n.ka=some x)(hkl:n.kl=1)(hK:∀W,Step mb w W→NCells W x v)(hF:∀W,Step mb w W→Calls prog 64 #[nvV v] W fun e w'=>e=.returned (ftV F)∧Below W.heap.size W w')(f:MS→MS)(hu:Up f)(hf:DoesF mb g w 42 #[.pointer (some ⟨mb,0,none⟩),nvV v] f)(hl:0≤n.least)(hm:n.most= -1∨n.least≤n.most)(hm0:n.most≠0)(hs:(roundsM n.least n.most n.way F.least f s).fits):Calls prog 112 #[.pointer (some ⟨mb,0,none⟩),nvV n] w fun e w'=>MkE mb g (roundsM n.least n.most n.way F.least f s) w e w':=by
 by_cases q1:0<n.least
 ·by_cases q3:n.least=n.most
  ·exact roundsA0 h n v x F hka hkl hK hF f hu hf hl hm hm0 q1 q3 hs
  ·by_cases q4:F.least=0
   ·exact roundsA1 h n v x F hka hkl hK hF f hu hf hl hm hm0 q1 q3 q4 hs
   ·exact roundsA2 h n v x F hka hkl hK hF f hu hf hl hm hm0 q1 q3 q4 hs
 ·by_cases q2:0<n.most
  ·by_cases q4:F.least=0
   ·exact roundsB1 h n v x F hka hkl hK hF f hu hf hl hm hm0 q1 q2 (by omega) q4 hs
   ·exact roundsB2 h n v x F hka hkl hK hF f hu hf hl hm hm0 q1 q2 (by omega) q4 hs
  ·by_cases q4:F.least=0
   ·exact roundsC1 h n v x F hka hkl hK hF f hu hf hl hm hm0 q1 q2 (by omega) q4 hs
   ·exact roundsC2 h n v x F hka hkl hK hF f hu hf hl hm hm0 q1 q2 (by omega) q4 hs
theorem cloR(n:NV)(pb nb:Nat)(hpl:mb<pb)(hnl:mb<nb)(hp:w.heap[pb]? =some (.cells #[.pointer (some ⟨mb,0,none⟩)] 103))(hn:w.heap[nb]? =some (nvO n))(f:MS→MS)(hf:DoesF mb g w 112 #[.pointer (some ⟨mb,0,none⟩),nvV n] f):DoesF mb g w 111 #[.pointer (some ⟨pb,0,none⟩),.pointer (some ⟨nb,0,none⟩)] f:=by
 intro W s hst hM hfit
 have p0:W.cell? ⟨pb,0,none⟩=some (.pointer (some ⟨mb,0,none⟩)):=by simp[World.cell?,hst.blk hpl hp (by decide) (by decide)]
 obtain⟨d0,d1,d2,d3,d4,d5,d6,d7⟩:=nv_cells (hst.blk hnl hn (by decide) (by decide))
 simp only[Nat.zero_add]at d0 d1 d2 d3 d4 d5 d6 d7
 have HC:=hide (hf W s hst hM hfit)
 clear hst hM hp hn hf hfit
 go_enter func111,ntmps111
 go_wp2_with fail
 refine HC.out.mono ?_
 rintro e w1 ⟨rfl,h1,st1⟩
 have HH:=hide h1
 have HT:=hide st1
 clear h1 st1 HC
 go_wp2
 go_end0
 exact⟨rfl,HH.out,HT.out⟩
theorem DoesF.step{w W:World}{k:Nat}{cs:Array Value}{f:MS→MS}(h:DoesF mb g w k cs f)(st:Step mb w W):DoesF mb g W k cs f:=fun W' s hst hM hf=>h W' s (st.trans hst) hM hf
theorem entersR(args:Array Value)(w:World):(callFunc 111 args).run prog w=.ok (.enter 111 args) w:=by first|rfl|kernel_rfl
theorem two_box(h:MB w mb g s)(n:NV):∃W,W=(w.alloc (.cells #[.pointer (some ⟨mb,0,none⟩)] 103)).alloc (nvO n)∧MB W mb g s∧Step mb w W∧W.heap[w.heap.size]? =some (.cells #[.pointer (some ⟨mb,0,none⟩)] 103)∧W.heap[w.heap.size+1]? =some (nvO n):=by
 refine⟨_,rfl,?_,?_,at_old (at_new _ _),at_new' _ _ (by simp)⟩
 ·exact h.keep (two_below _ _ _)
 ·exact Step.of_below (two_below _ _ _) h.lt
theorem repeat_any(h:MB w mb g s)(n v:NV)(x:Addr)(F:FT)(hka:n.ka=some x)(hkl:n.kl=1)(hK:∀W,Step mb w W→NCells W x v)(hF:∀W,Step mb w W→Calls prog 64 #[nvV v] W fun e w'=>e=.returned (ftV F)∧Below W.heap.size W w')(f:MS→MS)(hu:Up f)(hf:DoesF mb g w 42 #[.pointer (some ⟨mb,0,none⟩),nvV v] f)(hl:0≤n.least)(hm:n.most= -1∨n.least≤n.most)(hs:(repM n.least n.most n.way F.least f s).fits):Calls prog 68 #[.pointer (some ⟨mb,0,none⟩),nvV n] w fun e w'=>MkE mb g (repM n.least n.most n.way F.least f s) w e w':=by
 have hlt:=h.lt
 obtain⟨W,hW,hM,hT,hp,hn⟩:=two_box h n
 have HT:=hide hT
 have HR:Hid (n.most≠0→DoesF mb g W 112 #[.pointer (some ⟨mb,0,none⟩),nvV n] (roundsM n.least n.most n.way F.least f)):=fun hm0 W1 s1 hst hM1 hf1=>rounds_any hM1 n v x F hka hkl (fun W2 h2=>hK W2 (hT.trans (hst.trans h2))) (fun W2 h2=>hF W2 (hT.trans (hst.trans h2))) f hu (hf.step (hT.trans hst)) hl hm hm0 hf1
 have p0:W.cell? ⟨w.heap.size,0,none⟩=some (.pointer (some ⟨mb,0,none⟩)):=by simp[World.cell?,hp]
 obtain⟨d0,d1,d2,d3,d4,d5,d6,d7⟩:=nv_cells hn
 simp only[Nat.zero_add]at d0 d1 d2 d3 d4 d5 d6 d7
 simp only[nvO]at hW
 by_cases q0:n.most=0
 ·have HE:Hid (repM n.least n.most n.way F.least f s=s):=by show _=_;unfold repM;rw[if_pos q0]
  rw[HE.out]
  have b0:(n.most==0)=true:=by simpa using q0
  have HM:=hide hM
  clear h hp hn hka hkl hK hF hf hl hm hs hT hM HE HR q0 hu
  go_enter func68,ntmps68
  go_upto_region 2 with fail
  rw[← hW]
  clear hW
  go_wp2
  go_end0
  exact⟨rfl,HM.out,HT.out⟩
 ·have b0:(n.most==0)=false:=by simpa using q0
  by_cases q3:n.way=3
  ·have HE:Hid (repM n.least n.most n.way F.least f s=firstM false (roundsM n.least n.most n.way F.least f) s):=by show _=_;unfold repM;rw[if_neg q0,if_pos q3]
   rw[HE.out]at hs ⊢
   have b3:(n.way==3)=true:=by simpa using q3
   have HC:=hide (first_any hM false 111 #[.pointer (some ⟨w.heap.size,0,none⟩),.pointer (some ⟨w.heap.size+1,0,none⟩)] entersR _ (rounds_up _ _ _ _ hu) (cloR n _ _ hlt (by omega) hp hn _ (HR.out q0)) hs)
   clear h hp hn hka hkl hK hF hf hl hm hs hT hM HE HR q0 q3 hu
   go_enter func68,ntmps68
   go_upto_region 2 with fail
   rw[← hW]
   clear hW
   go_wp2_with fail
   refine HC.out.mono ?_
   rintro e w1 ⟨rfl,h1,st1⟩
   have HH:=hide h1
   have HT1:=hide (HT.out.trans st1)
   clear h1 st1 HC
   go_wp2
   go_end0
   exact⟨rfl,HH.out,HT1.out⟩
  ·have HE:Hid (repM n.least n.most n.way F.least f s=roundsM n.least n.most n.way F.least f s):=by show _=_;unfold repM;rw[if_neg q0,if_neg q3]
   rw[HE.out]at hs ⊢
   have b3:(n.way==3)=false:=by simpa using q3
   have HC:=hide (HR.out q0 W s (Step.refl _ _) hM hs)
   clear h hp hn hka hkl hK hF hf hl hm hs hT hM HE HR q0 q3 hu
   go_enter func68,ntmps68
   go_upto_region 2 with fail
   rw[← hW]
   clear hW
   go_wp2_with fail
   refine HC.out.mono ?_
   rintro e w1 ⟨rfl,h1,st1⟩
   have HH:=hide h1
   have HT1:=hide (HT.out.trans st1)
   clear h1 st1 HC
   go_wp2
   go_end0
   exact⟨rfl,HH.out,HT1.out⟩
variable {w w' : World} {mb : Nat} {g : Int} {s s' : MS}
theorem mkE_next{e:Nat}{ts:List Tr}{j:Nat}(hj:j+1<ts.length)(s:MS):mkE e (ts.drop j) s=mkE e (ts.drop (j+1)) (splitM e (mkT (ts[j]'(by omega))) s):=by
 rw[List.drop_eq_getElem_cons (by omega:j<ts.length),mkE,if_neg]
 intro h
 have:(ts.drop (j+1)).length=0:=by rw[List.isEmpty_iff.1 h];rfl
 rw[List.length_drop]at this
 omega
theorem mkE_last{e:Nat}{ts:List Tr}{j:Nat}(hj:j<ts.length)(hl:j+1=ts.length)(s:MS):mkE e (ts.drop j) s=(mkT ts[j] s).stand e:=by
 rw[List.drop_eq_getElem_cons hj,mkE,if_pos]
 rw[List.drop_eq_nil_of_le (by omega)]
 rfl
theorem either_any(h:MB w mb g s)(x:Addr)(kc m:Nat)(ts:List Tr)(vs:Nat→NV)(hlen:ts.length=m+1)(hmx:m+1≤kc∧kc≤9223372036854775807)(hK:∀j,j<ts.length→∀W,Step mb w W→NCells W (x.add (j*8)) (vs j))(hf:∀j (hj:j<ts.length),DoesF mb g w 42 #[.pointer (some ⟨mb,0,none⟩),nvV (vs j)] (mkT ts[j]))(hs:(mkE s.lab.length ts s.newL).fits):Calls prog 66 #[.pointer (some ⟨mb,0,none⟩),.slice (some x) (m+1) kc] w fun e w'=>MkE mb g (mkE s.lab.length ts s.newL) w e w':=by
 have HS0:Hid s.fits:=((le_newL s).trans (mkE_up _ ts _)).fits hs
 have hlt:=h.lt
 have HT0:=hide (Step.refl mb w)
 have HK:=hide hK
 have HF:=hide hf
 have HLen:=hide hlen
 obtain⟨l,hl⟩:=named s.lab.length
 have HN0:=hide hl
 rw[← hl]at hs ⊢
 obtain⟨R,hR⟩:=named (mkE l ts s.newL)
 rw[← hR]at hs ⊢
 have HR:=hide hR
 have HFit:=hide hs
 have wm:IntKind.i64.wrap (((m+1:Nat):Int) - 1)=(m:Int):=by rw[IntKind.wrap_i64];omega
 have HC1:=hide (newL_at h l HN0.out.symm (by have:=HS0.out.2.1;have:=HN0.out;omega))
 clear h hK hf hs hlen hl hR
 go_enter func66,ntmps66
 go_wp2_with fail
 refine HC1.out.mono ?_
 rintro e w1 ⟨rfl,h1,st1⟩
 have HM1:=hide h1
 have HT1:=hide st1
 clear HC1 h1 st1 HT0
 go_wp2
 go_loopw [19] (fun v wr=>∃(j:Nat) (sj:MS),j≤m∧v=.int .i64 (j:Int)∧MB wr mb g sj∧Step mb w wr∧R=mkE l (ts.drop j) sj∧l<sj.lab.length) (fun v _=>m - (intOf v).toNat)
 case atStart=>exact⟨0,s.newL,Nat.zero_le _,rfl,HM1.out,HT1.out,by rw[List.drop_zero];exact HR.out,by rw[z8,HN0.out];omega⟩
 case round=>
  obtain⟨j,sj,hj,rfl,hMj,hTj,hRj,hlj⟩:=hrel
  obtain⟨w5,hw5⟩:=named wr
  subst hw5
  by_cases hlt2:j<m
  ·have e1:(0:Int)≤(j:Int):=by omega
   have e2:(j:Int)<(m:Int):=by omega
   have hjt:j<ts.length:=by have:=HLen.out;omega
   have hjt1:j+1<ts.length:=by have:=HLen.out;omega
   have hjw:IntKind.i64.wrap ((j:Int)+1)=(j:Int)+1:=by rw[IntKind.wrap_i64];omega
   have HRn:Hid (R=mkE l (ts.drop (j+1)) (splitM l (mkT ts[j]) sj)):=hRj.trans (mkE_next hjt1 sj)
   have HSp:Hid (splitM l (mkT ts[j]) sj).fits:=(mkE_up l (ts.drop (j+1)) _).fits (by rw[← HRn.out];exact HFit.out)
   obtain⟨f,hfe⟩:=named (mkT ts[j])
   have HUf:Hid (Up f):=by show Up f;rw[hfe];exact mkT_up _
   rw[← hfe]at HRn HSp
   have HFj:Hid (DoesF mb g w 42 #[.pointer (some ⟨mb,0,none⟩),nvV (vs j)] f):=by have:=HF.out j hjt;rw[← hfe]at this;exact this
   have HSj:Hid sj.fits:=(split_up l HUf.out sj).fits HSp.out
   have HLj:=hide hlj
   have HF1:Hid (f ((sj.newL.newL.add ⟨3,[],(sj.lab.length:Int),((sj.lab.length+1:Nat):Int),0,0,false,false⟩).stand sj.lab.length)).fits:=(((le_add _ _).stand _)).fits HSp.out
   have HU1:Hid (((sj.newL.newL.add ⟨3,[],(sj.lab.length:Int),((sj.lab.length+1:Nat):Int),0,0,false,false⟩).stand sj.lab.length).le (f ((sj.newL.newL.add ⟨3,[],(sj.lab.length:Int),((sj.lab.length+1:Nat):Int),0,0,false,false⟩).stand sj.lab.length))):=HUf.out _
   obtain⟨la,hla⟩:=named sj.lab.length
   have HNa:=hide hla
   clear hla
   obtain⟨lb,hlb⟩:=named (la+1)
   have HNb:=hide hlb
   clear hlb
   rw[← HNa.out, ←HNb.out]at HF1 HU1
   obtain⟨c0,c1,c2,c3,c4,c5,c6,c7⟩:=HK.out j hjt w5 hTj
   obtain⟨nn,hnn⟩:=named (vs j)
   rw[← hnn]at c0 c1 c2 c3 c4 c5 c6 c7 HFj
   obtain⟨W6,hW6⟩:=named (w5.alloc (nvO nn))
   have hb6:Below w5.heap.size w5 W6:=by rw[hW6];exact allocB _ _
   have hx6:W6.heap[w5.heap.size]? =some (nvO nn):=by rw[hW6];exact at_new _ _
   have hs6:=Step.of_below hb6 hMj.lt
   have h0:=hMj.keep hb6
   have HT0:=hide (hTj.trans hs6)
   obtain⟨nb,hnb⟩:=named w5.heap.size
   have hnl:mb<nb:=by have:=hMj.lt;omega
   rw[← hnb]at hx6
   have HX0:=hide hx6
   simp only[nvO]at hW6
   clear hMj hTj hRj hlj hb6 hx6 hs6 hfe hlt2 hnn
   go_upto_region 4 with fail
   rw[← hW6, ←hnb]
   clear hW6 hnb c0 c1 c2 c3 c4 c5 c6 c7
   have HC1:=hide (newL_at h0 la (by have e0:=HNa.out;have e1:=HNb.out;have:=HSj.out.1;have:=HSj.out.2.1;have:=HSj.out.2.2;(try simp only[z1,z2,z3,z4,z5,z6,z7,z8,z9,za,zb,zc]);omega) (by have e0:=HNa.out;have e1:=HNb.out;have:=HSj.out.1;have:=HSj.out.2.1;have:=HSj.out.2.2;(try simp only[z1,z2,z3,z4,z5,z6,z7,z8,z9,za,zb,zc]);omega))
   clear h0
   go_wp2_with fail
   refine HC1.out.mono ?_
   rintro e w1 ⟨rfl,h1,st1⟩
   have HT1:=hide (HT0.out.trans st1)
   clear HC1 HT0
   have HX1:=hide (st1.blk hnl HX0.out (by decide) (by decide))
   clear HX0
   have HC2:=hide (newL_at h1 lb (by have e0:=HNa.out;have e1:=HNb.out;have:=HSj.out.1;have:=HSj.out.2.1;have:=HSj.out.2.2;(try simp only[z8]);omega) (by have e0:=HNa.out;have e1:=HNb.out;have:=HSj.out.1;have:=HSj.out.2.1;have:=HSj.out.2.2;(try simp only[z1,z2,z3,z4,z5,z6,z7,z8,z9,za,zb,zc]);omega))
   clear h1 st1
   go_wp2_with fail
   refine HC2.out.mono ?_
   rintro e w2 ⟨rfl,h2,st2⟩
   have HT2:=hide (HT1.out.trans st2)
   clear HC2 HT1
   have HX2:=hide (st2.blk hnl HX1.out (by decide) (by decide))
   clear HX1
   have HC3:=hide (add0 h2 3 la lb 0 0 false false (by have e0:=HNa.out;have e1:=HNb.out;have:=HSj.out.1;have:=HSj.out.2.1;have:=HSj.out.2.2;(try simp only[z7]);omega))
   clear h2 st2
   go_wp2_with fail
   refine HC3.out.mono ?_
   rintro e w3 ⟨rfl,h3,st3⟩
   have HT3:=hide (HT2.out.trans st3)
   clear HC3 HT2
   have HX3:=hide (st3.blk hnl HX2.out (by decide) (by decide))
   clear HX2
   have HC4:=hide (stand_any h3 la (by have e0:=HNa.out;have e1:=HNb.out;have:=HSj.out.1;have:=HSj.out.2.1;have:=HSj.out.2.2;(try simp only[z2,z8]);omega))
   clear h3 st3
   go_wp2_with fail
   refine HC4.out.mono ?_
   rintro e w4 ⟨rfl,h4,st4⟩
   have HT4:=hide (HT3.out.trans st4)
   clear HC4 HT3
   have HX4:=hide (st4.blk hnl HX3.out (by decide) (by decide))
   clear HX3
   obtain⟨d0,d1,d2,d3,d4,d5,d6,d7⟩:=nv_cells HX4.out
   simp only[Nat.zero_add]at d0 d1 d2 d3 d4 d5 d6 d7
   have HC5:=hide (HFj.out w4 _ HT4.out h4 HF1.out)
   clear h4 st4
   go_wp2_with fail
   refine HC5.out.mono ?_
   rintro e w5 ⟨rfl,h5,st5⟩
   have HT5:=hide (HT4.out.trans st5)
   clear HC5 HT4
   have HX5:=hide (st5.blk hnl HX4.out (by decide) (by decide))
   clear HX4
   clear d0 d1 d2 d3 d4 d5 d6 d7
   clear HFj
   have HC6:=hide (add0 h5 2 l 0 0 0 false false (by have e0:=HNa.out;have e1:=HNb.out;have:=HSj.out.1;have:=HSj.out.2.1;have:=HSj.out.2.2;have:=HF1.out.1;have:=HF1.out.2.1;have:=HF1.out.2.2;have qHU1:=HU1.out.lab;have rHU1:=HU1.out.cnt;(try simp only[z2,z8,zb]at qHU1);(try simp only[z3,z9,zc]at rHU1);(try simp only[z1,z2,z3,z4,z5,z6,z7,z8,z9,za,zb,zc]);omega))
   clear h5 st5
   go_wp2_with fail
   refine HC6.out.mono ?_
   rintro e w6 ⟨rfl,h6,st6⟩
   have HT6:=hide (HT5.out.trans st6)
   clear HC6 HT5
   have HX6:=hide (st6.blk hnl HX5.out (by decide) (by decide))
   clear HX5
   have HC7:=hide (stand_any h6 lb (by have e0:=HNa.out;have e1:=HNb.out;have:=HSj.out.1;have:=HSj.out.2.1;have:=HSj.out.2.2;have:=HF1.out.1;have:=HF1.out.2.1;have:=HF1.out.2.2;have qHU1:=HU1.out.lab;have rHU1:=HU1.out.cnt;(try simp only[z2,z8,zb]at qHU1);(try simp only[z3,z9,zc]at rHU1);(try simp only[z2]);omega))
   clear h6 st6
   go_wp2_with fail
   refine HC7.out.mono ?_
   rintro e w7 ⟨rfl,h7,st7⟩
   have HT7:=hide (HT6.out.trans st7)
   clear HC7 HT6
   have HX7:=hide (st7.blk hnl HX6.out (by decide) (by decide))
   clear HX6
   have HH:=hide h7
   clear h7 st7 HX7
   have HEq:Hid (splitM l f sj=((f (((sj.newL.newL.add ⟨3,[],(sj.lab.length:Int),((sj.lab.length+1:Nat):Int),0,0,false,false⟩).stand sj.lab.length))).add ⟨2,[],(l:Int),0,0,0,false,false⟩).stand (sj.lab.length+1)):=rfl
   rw[← HNa.out, ←HNb.out]at HEq
   go_wp2
   go_roundw
   case rel=>exact⟨j+1,_,by omega,by go_num,HH.out,HT7.out,by rw[HRn.out,HEq.out],by have q:=HU1.out.lab;have r:=HLj.out;have e0:=HNa.out;simp only[z2,z8,zb]at q ⊢;omega⟩
   case measure=>simp[intOf];omega
  ·have hjm:j=m:=by omega
   subst hjm
   have hjt:j<ts.length:=by have:=HLen.out;omega
   have e2:¬(j:Int)<(j:Int):=by omega
   have HRn:Hid (R=(mkT ts[j] sj).stand l):=hRj.trans (mkE_last hjt HLen.out.symm sj)
   have HF1:Hid (mkT ts[j] sj).fits:=(le_stand _ l).fits (by rw[← HRn.out];exact HFit.out)
   have HU1:Hid (sj.le (mkT ts[j] sj)):=mkT_up _ _
   have HLj:=hide hlj
   obtain⟨c0,c1,c2,c3,c4,c5,c6,c7⟩:=HK.out j hjt w5 hTj
   have HC1:=hide (HF.out j hjt w5 sj hTj hMj HF1.out)
   obtain⟨nn,hnn⟩:=named (vs j)
   rw[← hnn]at c0 c1 c2 c3 c4 c5 c6 c7 HC1
   have e1:(0:Int)≤(j:Int):=by omega
   have e3:(j:Int)<((j+1:Nat):Int):=by omega
   have HTj:=hide hTj
   clear hMj hTj hRj hlj hlt2 hnn hj
   go_wp2_with fail
   refine HC1.out.mono ?_
   rintro e w6 ⟨rfl,h6,st6⟩
   have HT6:=hide (HTj.out.trans st6)
   have HC2:=hide (stand_any h6 l (by have q:=HU1.out.lab;have r:=HLj.out;omega))
   clear h6 st6 HC1 c0 c1 c2 c3 c4 c5 c6 c7 HTj
   go_wp2_with fail
   refine HC2.out.mono ?_
   rintro e w7 ⟨rfl,h7,st7⟩
   have HH:=hide h7
   have HT7:=hide (HT6.out.trans st7)
   clear h7 st7 HC2
   go_wp2
   go_end0
   rw[HRn.out]
   exact⟨rfl,HH.out,HT7.out⟩
end Go.Proofs.YtfnndcbjklppeaaGreatDoor.Mk
