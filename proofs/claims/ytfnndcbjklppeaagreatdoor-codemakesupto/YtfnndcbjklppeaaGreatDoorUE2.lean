import Derived.Test.YtfnndcbjklppeaaGreatDoorUB2
import Derived.Test.YtfnndcbjklppeaaGreatDoorUA2
set_option maxHeartbeats 4000000
set_option maxRecDepth 100000
set_option linter.unusedVariables false
open Go.Proofs.Tryz
namespace Go.Proofs.YtfnndcbjklppeaaGreatDoor
open Go.RowKit
def cntL(step:Tr→Nat→Nat):List Tr→Nat→Nat
 |[],c=>c
 |t::ts,c=>if c<1001 then cntL step ts (step t c)else c
def cntT:Nat→Tr→Nat→Nat
 |0,_,_=>1001
 |f+1,t,c=>cntL (cntT f) t.kids (c+1)
theorem cntL_le{step:Tr→Nat→Nat}(hs:∀t c,c≤1000→step t c≤1001):∀(ts:List Tr) (c:Nat),c≤1001→cntL step ts c≤1001:=by
 intro ts
 induction ts with
 |nil=>intro c h;exact h
 |cons t ts ih=>
  intro c h
  unfold cntL
  split
  ·rename_i h1;exact ih _ (hs t c (by omega))
  ·exact h
theorem cntT_le:∀(f:Nat) (t:Tr) (c:Nat),c≤1000→cntT f t c≤1001:=by
 intro f
 induction f with
 |zero=>intro t c _;exact leR _
 |succ f ih=>intro t c h;exact cntL_le ih _ _ (by omega)
theorem cntL_drop{step:Tr→Nat→Nat}{ts:List Tr}{j c:Nat}(hj:j<ts.length)(hc:c<1001):cntL step (ts.drop j) c=cntL step (ts.drop (j+1)) (step ts[j] c):=by
 rw[List.drop_eq_getElem_cons hj]
 conv=>lhs;unfold cntL
 rw[if_pos hc]
theorem cntL_stop{step:Tr→Nat→Nat}{ts:List Tr}{c:Nat}(hc:¬c<1001):cntL step ts c=c:=by
 cases ts with
 |nil=>rfl
 |cons t ts=>unfold cntL;rw[if_neg hc]
theorem countOn_any:∀(f:Nat) (n:NV) (t:Tr) (c:Nat) (deep:Int) (w:World),NodeC w n t→c≤1000→deep=201 - (f:Int)→f≤201→Calls prog 137 #[.int .i64 c,nvV n,.int .i64 deep] w fun e w'=>e=.returned (.int .i64 (cntT f t c:Nat))∧Below w.heap.size w w':=by
 intro f
 induction f with
 |zero=>
  intro n t c deep w h hc hd hf
  have e1:(200:Int)<deep:=by omega
  have hb:Below w.heap.size w (w.alloc (nvO n)):=allocB _ _
  have HB:=hide hb
  clear h hd hb
  go_enter func137,ntmps137
  go_wp2
  go_ret
  exact⟨rfl,HB.out⟩
 |succ f ih=>
  intro n t c deep w h hc hd hf
  have e1:¬(200:Int)<deep:=by omega
  have hdw:IntKind.i64.wrap (deep+1)=deep+1:=by rw[IntKind.wrap_i64];omega
  have hdr: -9223372036854775808≤deep∧deep≤1000:=by omega
  have hb:Below w.heap.size w (w.alloc (nvO n)):=allocB _ _
  have HB:=hide hb
  obtain⟨-, -, -, -, -, -, -,vs,hk,hkids⟩:=h.open
  have HKd:=hide hkids
  have HKc:=hide hk
  have hkl:=hk.len
  have HIH:=hide (fun (n:NV) (t:Tr) (c:Nat) (w:World) (h:NodeC w n t) (hc:c≤1000)=>ih n t c (deep+1) w h hc (by omega) (by omega))
  obtain⟨w1,hw1⟩:=named (w.alloc (nvO n))
  have hbox:w1.heap[w.heap.size]? =some (nvO n):=by rw[hw1];exact at_new _ _
  have HBx:=hide hbox
  rw[← hw1]at HB
  simp only[nvO]at hw1
  obtain⟨ks,hks⟩:=named t.kids
  have HE:Hid (cntT (f+1) t c=cntL (cntT f) ks (c+1)):=by show _=_;rw[hks];rfl
  have HLe:Hid (∀t c,c≤1000→cntT f t c≤1001):=cntT_le f
  rw[← hks]at HKc hkl
  have HKd2:Hid (∀j (hj:j<ks.length),NodeC w (vs j) ks[j]):=by subst hks;exact HKd.out
  clear h hd hb hbox hkids hk ih hf HKd hks
  have HKL:=hide hkl
  clear hkl
  go_enter func137,ntmps137
  go_wp2
  rw[← hw1]
  clear hw1
  go_loopw [0,7] (fun s t wr=>∃(j cc:Nat),j≤ks.length∧cc≤1001∧s=.int .i64 cc∧t=.int .i64 j∧cntL (cntT f) ks (c+1)=cntL (cntT f) (ks.drop j) cc∧wr.heap[w.heap.size]? =some (nvO n)∧Below w.heap.size w wr) (fun _ t _=>ks.length - (intOf t).toNat)
  case atStart=>exact⟨0,c+1,Nat.zero_le _,by omega,by go_num,rfl,rfl,HBx.out,HB.out⟩
  case round=>
   obtain⟨j,cc,hj,hcc,rfl,rfl,hE,hx,hb⟩:=hrel
   have HE2:=hide hE
   have HX:=hide hx
   have HB2:=hide hb
   have hnc:=nv_cells hx
   have m2:=hnc.c2
   obtain⟨w2,hw2⟩:=named wr
   subst hw2
   clear hE hx hb hnc HB HBx
   by_cases hlt:j<ks.length
   ·have e2:(j:Int)<(n.kl:Int):=by have:=HKL.out;omega
    by_cases hst:cc<1001
    ·have e3:(cc:Int)<1001:=by omega
     have e4:(0:Int)≤(j:Int):=by omega
     rcases HKc.out with⟨_,_,_,h0⟩|⟨x,hx,hkk,hmx,hcl⟩
     ·exact absurd h0 (by omega)
     ·have hcj:=(hcl j hlt).below HB2.out
      have hN:=(HKd2.out j hlt).keep HB2.out
      obtain⟨d0,d1,d2,d3,d4,d5,d6,d7⟩:=hcj
      have HC:=hide (HIH.out (vs j) ks[j] cc w2 hN (by omega))
      have hjm:(j:Int)+1≤9223372036854775807:=by omega
      have hjw:IntKind.i64.wrap ((j:Int)+1)=(j:Int)+1:=by rw[IntKind.wrap_i64];omega
      rw[hx]at m2
      clear hcl hN hx
      go_wp2_with fail
      refine HC.out.mono ?_
      rintro e w3 ⟨rfl,hb3⟩
      have HB3:=hide (HB2.out.andT hb3)
      have HX3:=hide (show w3.heap[w.heap.size]? =some (nvO n) by rw[hb3.block _ (lt_of_block HX.out)];exact HX.out)
      have hle:=HLe.out ks[j] cc (by omega)
      have HNx:Hid (cntL (cntT f) ks (c+1)=cntL (cntT f) (ks.drop (j+1)) (cntT f ks[j] cc)):=by show _=_;rw[HE2.out,cntL_drop hlt hst]
      clear hb3 HC HB2 HX
      go_wp2
      go_roundw
      case rel=>exact⟨j+1,_,by omega,hle,rfl,by go_num,HNx.out,HX3.out,HB3.out⟩
      case measure=>simp[intOf];omega
    ·have e3:¬(cc:Int)<1001:=by omega
     have hF:Hid (cntT (f+1) t c=cc):=by show _=_;rw[HE.out,HE2.out,cntL_stop hst]
     go_wp2
     go_ret
     exact⟨by rw[hF.out];rfl,HB2.out⟩
   ·have e2:¬(j:Int)<(n.kl:Int):=by have:=HKL.out;omega
    have hF:Hid (cntT (f+1) t c=cc):=by
     show _=_
     rw[HE.out,HE2.out,List.drop_eq_nil_of_le (by omega)];rfl
    go_wp2
    go_ret
    exact⟨by rw[hF.out];rfl,HB2.out⟩
def cntA(t:Tr):Nat:=cntT 201 t 0
theorem count_any(n:NV)(t:Tr)(w:World)(h:NodeC w n t):Calls prog 99 #[nvV n] w fun e w'=>e=.returned (.tuple #[.int .i64 (if cntA t<1001 then(cntA t:Int)else 0),.int .i64 (if cntA t<1001 then 0 else 2)])∧Below w.heap.size w w':=by
 have hb:Below w.heap.size w (w.alloc (nvO n)):=allocB _ _
 have hN:=h.keep hb
 obtain⟨w1,hw1⟩:=named (w.alloc (nvO n))
 have hbox:w1.heap[w.heap.size]? =some (nvO n):=by rw[hw1];exact at_new _ _
 rw[← hw1]at hN hb
 have HC:=hide (countOn_any 201 n t 0 0 w1 hN (by omega) (by omega) (by omega))
 have HB:=hide hb
 obtain⟨d0,d1,d2,d3,d4,d5,d6,d7⟩:=nv_cells hbox
 obtain⟨q,hq⟩:=named (cntA t)
 rw[show cntT 201 t 0=q from hq.symm]at HC
 rw[← hq]
 simp only[nvO]at hw1
 clear h hN hb hbox hq
 by_cases hlt:q<1001
 ·have e1:(q:Int)<1001:=by omega
  rw[if_pos hlt,if_pos hlt]
  clear hlt
  go_enter func99,ntmps99
  go_wp2_with fail
  rw[← hw1]
  clear hw1
  refine HC.out.mono ?_
  rintro e w2 ⟨rfl,hb2⟩
  have HB2:=hide (HB.out.andT hb2)
  clear hb2 HC
  go_wp2
  go_ret2
  exact⟨rfl,HB2.out⟩
 ·have e1:¬(q:Int)<1001:=by omega
  rw[if_neg hlt,if_neg hlt]
  clear hlt
  go_enter func99,ntmps99
  go_wp2_with fail
  rw[← hw1]
  clear hw1
  refine HC.out.mono ?_
  rintro e w2 ⟨rfl,hb2⟩
  have HB2:=hide (HB.out.andT hb2)
  clear hb2 HC
  go_wp2
  go_ret2
  exact⟨rfl,HB2.out⟩
theorem all_take_succ{L:RL}{k:Nat}(hk:k<L.length)(h:∀r∈L.take k,okR r)(hr:okR L[k]):∀r∈L.take (k+1),okR r:=by
 intro r h1
 rw[List.take_add_one,List.getElem?_eq_getElem hk]at h1
 rcases List.mem_append.1 h1 with h1|h1
 ·exact h r h1
 ·simp at h1;rw[h1];exact hr
theorem rightE_no{L:RL}{r:Int×Int}(hl:L.length≤400)(hr:r∈L)(hn:¬okR r):rightE L=3:=by
 unfold rightE
 rw[if_neg (by omega),if_neg]
 rw[List.all_eq_true]
 intro h
 exact hn ((okB_iff r).1 (h r hr))
theorem checkRanges_any(v:Value)(L:RL)(w:World)(hv:Reads w v L):Calls prog 60 #[v] w fun e w'=>e=.returned (.int .i64 (rightE L))∧Below w.heap.size w w':=by
 by_cases hl:400<L.length
 ·have hE:Hid (rightE L=2):=by show _=_;simp[rightE,hl]
  obtain⟨ao,c,rfl⟩:=hv.shape
  clear hv
  obtain⟨n,hn⟩:=named L.length
  rw[← hn]at hl ⊢
  go_enter func60,ntmps60
  go_wp2
  go_ret
  exact⟨ret_int hE.out.symm,by go_grown⟩
 ·rcases hv with⟨rfl,rfl⟩|⟨x,c,rfl,hc⟩
  ·go_enter func60,ntmps60
   go_wp2
   go_loop [10] (fun i=>i=.int .i64 0) (fun i=>0)
   case atStart=>exact rfl
   case round=>
    subst hrel
    go_wp2
    go_ret
    exact⟨rfl,by go_grown⟩
  ·obtain ⟨n,hn⟩:=named L.length
   have HC:=hide hc
   have HN:=hide hn
   rw[← hn]at hl ⊢
   clear hc hn
   go_enter func60,ntmps60
   go_wp2
   go_loopw [10] (fun i wr=>∃k:Nat,k≤n∧i=.int .i64 k∧(∀r∈L.take k,okR r)∧Below w.heap.size w wr) (fun i _=>n - (intOf i).toNat)
   case atStart=>exact⟨0,Nat.zero_le _,rfl,by simp,belR _ _⟩
   case round=>
    obtain⟨k,hk,rfl,hok,hb⟩:=hrel
    have hok:=hide hok
    by_cases hlt:k<n
    ·have hkL:k<L.length:=by have:=HN.out;omega
     obtain⟨c1,c2⟩:=(HC.out.below hb) k hkL
     obtain⟨r,hr⟩:=named (L[k])
     rw[← hr]at c1 c2
     have HR:=hide hr
     obtain⟨a,b⟩:=r
     simp only at c1 c2
     clear hr
     by_cases hab:okR (a,b)
     ·have hab':=hab
      unfold okR at hab'
      simp only at hab'
      obtain⟨h0,h1,h2⟩:=hab'
      have HAB:=hide hab
      clear hab
      go_wp2_with (first|(go_at_call 98;refine(is_any _ _).mono ?_;rintro e w' ⟨rfl,rfl⟩))
      go_roundw
      case rel=>exact⟨k+1,by omega,by go_num,all_take_succ hkL hok.out (by rw[← HR.out];exact HAB.out),hb.alloc (by exact hb.size) _⟩
      case measure=>simp[intOf];omega
     ·have hE:Hid (rightE L=3):=rightE_no (by have:=HN.out;omega) (r:=(a,b)) (by rw[HR.out];exact List.getElem_mem _) hab
      unfold okR at hab
      simp only at hab
      by_cases h1:0≤a∧a≤1114111
      ·by_cases h2:0≤b∧b≤1114111
       ·have h3:b<a:=by omega
        clear hab
        go_wp2_with (first|(go_at_call 98;refine(is_any _ _).mono ?_;rintro e w' ⟨rfl,rfl⟩))
        go_ret
        exact⟨ret_int hE.out.symm,hb.alloc (by exact hb.size) _⟩
       ·have hd:decide (0≤b∧b≤1114111)=false:=by simpa using h2
        have HI:=hide (fun w=>is_any b w)
        rw[hd]at HI
        clear hab h2 hd
        go_wp2_with (first|(go_at_call 98;first|(refine(HI.out _).mono ?_;rintro e w' ⟨rfl,rfl⟩)|(refine(is_any _ _).mono ?_;rintro e w' ⟨rfl,rfl⟩)))
        go_ret
        exact⟨ret_int hE.out.symm,hb.alloc (by exact hb.size) _⟩
      ·have hd:decide (0≤a∧a≤1114111)=false:=by simpa using h1
       have HI:=hide (fun w=>is_any a w)
       rw[hd]at HI
       clear hab h1 hd
       go_wp2_with (first|(go_at_call 98;refine(HI.out _).mono ?_;rintro e w' ⟨rfl,rfl⟩))
       go_ret
       exact⟨ret_int hE.out.symm,hb.alloc (by exact hb.size) _⟩
    ·have hkn:k=n:=by omega
     have hE:Hid (rightE L=0):=by
      have h:=hok.out
      rw[hkn,HN.out,List.take_length]at h
      exact rightE_ok.2 ⟨by have:=HN.out;omega,h⟩
     go_wp2
     go_ret
     exact⟨ret_int hE.out.symm,hb⟩
theorem checkE_bad{L:RL}(h:rightE L≠0):checkE L=rightE L:=by unfold checkE;rw[if_neg h]
theorem checkE_no{L:RL}{j:Nat}(h:rightE L=0)(hj:j+1<L.length)(hn:¬L[j].2+1<L[j+1].1):checkE L=4:=by
 unfold checkE
 rw[if_pos h,if_neg]
 rw[chainB_iff]
 exact fun hc=>hn (hc j hj)
theorem checkE_yes{L:RL}(h:rightE L=0)(hc:∀j (h:j+1<L.length),L[j].2+1<L[j+1].1):checkE L=0:=by
 unfold checkE
 rw[if_pos h,if_pos ((chainB_iff L).2 hc)]
theorem check_any(v:Value)(L:RL)(w:World)(hv:Reads w v L):Calls prog 37 #[v] w fun e w'=>e=.returned (.int .i64 (checkE L))∧Below w.heap.size w w':=by
 have H:=hide (checkRanges_any v L w hv)
 by_cases hr:rightE L=0
 ·rw [hr] at H
  obtain⟨hlen,hok⟩:=rightE_ok.1 hr
  have HR:=hide hr
  have HO:=hide hok
  clear hr hok
  rcases hv with⟨rfl,rfl⟩|⟨x,c,rfl,hc⟩
  ·go_enter func37,ntmps37
   go_wp2_with fail
   refine H.out.mono ?_
   rintro e w1 ⟨rfl,hb1⟩
   clear H
   go_wp2
   go_loopw [4] (fun i wr=>i=.int .i64 1∧w1=wr) (fun i _=>0)
   case atStart=>exact⟨rfl,rfl⟩
   case round=>
    obtain⟨rfl,rfl⟩:=hrel
    go_wp2
    go_ret
    exact⟨ret_int rfl,hb1⟩
  ·obtain ⟨n,hn⟩:=named L.length
   have HC:=hide hc
   have HN:=hide hn
   rw[← hn]at hlen H ⊢
   clear hc hn
   go_enter func37,ntmps37
   go_wp2_with fail
   refine H.out.mono ?_
   rintro e w1 ⟨rfl,hb1⟩
   clear H
   go_wp2
   go_loopw [4] (fun i wr=>∃k:Nat,k≤n∧i=.int .i64 (k+1)∧(∀j (h:j+1<L.length),j<k→L[j].2+1<L[j+1].1)∧Below w.heap.size w wr) (fun i _=>n+1 - (intOf i).toNat)
   case atStart=>exact⟨0,Nat.zero_le _,rfl,fun j h hj=>by omega,hb1⟩
   case round=>
    obtain⟨k,hk,rfl,hch,hb⟩:=hrel
    have HCh:=hide hch
    clear hch
    by_cases hlt:k+1<n
    ·have hkL:k+1<L.length:=by have:=HN.out;omega
     have hkL':k<L.length:=by omega
     obtain⟨c1,c2⟩:=(HC.out.below hb) (k+1) hkL
     obtain⟨c3,c4⟩:=(HC.out.below hb) k hkL'
     have hr1:=HO.out L[k] (List.getElem_mem _)
     unfold okR at hr1
     obtain⟨b,hb'⟩:=named (L[k].2)
     obtain⟨a,ha'⟩:=named (L[k+1].1)
     rw[← ha']at c1
     rw[← hb']at c4 hr1
     have HA:=hide ha'
     have HB:=hide hb'
     obtain⟨_,hr2,hr3⟩:=hr1
     have hr4:0≤b:=by omega
     clear c2 c3 ha' hb' hr2
     have e1:(k:Int)+1<(n:Int):=by omega
     have e2:(k:Int)<(n:Int):=by omega
     have e0:(0:Int)≤(k:Int):=by omega
     have c1':wr.cell? (x.add ((k+1)*2))=some (.int .i64 a):=c1
     have wb:IntKind.i64.wrap (b+1)=b+1:=by rw[IntKind.wrap_i64];omega
     by_cases hab:a≤b+1
     ·have hE:Hid (checkE L=4):=checkE_no HR.out hkL (by rw[← HA.out, ←HB.out];omega)
      go_wp2
      go_quiet (fail)
      go_wp2
      go_ret
      exact⟨ret_int hE.out.symm,below_drewN hb _⟩
     ·have HNab:=hide hab
      have hd:decide (a≤b+1)=false:=by simpa using hab
      clear hab
      go_wp2
      go_quiet (fail)
      go_wp2
      go_roundw
      case rel=>exact⟨k+1,by omega,by go_num,fun j h hj=>by
       by_cases hjk:j=k
       ·subst hjk;rw[← HA.out, ←HB.out];have:=HNab.out;omega
       ·exact HCh.out j h (by omega),below_drewN hb _⟩
      case measure=>simp[intOf];omega
    ·have hE:Hid (checkE L=0):=checkE_yes HR.out fun j h=>HCh.out j h (by have:=HN.out;omega)
     go_wp2
     go_ret
     exact⟨ret_int hE.out.symm,hb⟩
 ·have hE:Hid (checkE L=rightE L):=checkE_bad hr
  clear hv
  obtain⟨z,hz⟩:=named (rightE L)
  rw[← hz]at hr H hE
  clear hz
  go_enter func37,ntmps37
  go_wp2_with fail
  refine H.out.mono ?_
  rintro e w1 ⟨rfl,hb1⟩
  go_wp2
  go_ret
  exact⟨ret_int hE.out.symm,hb1⟩
end Go.Proofs.YtfnndcbjklppeaaGreatDoor
