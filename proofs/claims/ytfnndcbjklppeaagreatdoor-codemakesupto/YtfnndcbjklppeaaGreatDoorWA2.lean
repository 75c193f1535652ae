import Derived.Test.YtfnndcbjklppeaaGreatDoorUE2
set_option maxHeartbeats 4000000
set_option maxRecDepth 100000
set_option linter.unusedVariables false
open Go.Proofs.Tryz
namespace Go.Proofs.YtfnndcbjklppeaaGreatDoor
open Go.RowKit
theorem isR_yes(p:Int)(w:World)(h0:0≤p)(h1:p≤1114111):Calls prog 49 #[.int .i64 p] w fun e w'=>e=.returned (.bool true)∧w'=w:=
 (isR_any p w).mono fun e w' ⟨h,k⟩=>⟨by rw[h];simp[h0,h1],k.symm⟩
theorem isR_no(p:Int)(w:World)(h:¬(0≤p∧p≤1114111)):Calls prog 49 #[.int .i64 p] w fun e w'=>e=.returned (.bool false)∧w'=w:=
 (isR_any p w).mono fun e w' ⟨he,k⟩=>⟨by rw[he,show decide (0≤p∧p≤1114111)=false from by simpa using h],k.symm⟩
theorem rightRanges_any(v:Value)(L:RL)(w:World)(hv:Reads w v L):Calls prog 39 #[v] w fun e w'=>e=.returned (.int .i64 (rightE L))∧Below w.heap.size w w':=by
 by_cases hl:400<L.length
 ·have hE:Hid (rightE L=2):=by show _=_;simp[rightE,hl]
  obtain⟨ao,c,rfl⟩:=hv.shape
  clear hv
  obtain⟨n,hn⟩:=named L.length
  rw[← hn]at hl ⊢
  go_enter func39,ntmps39
  go_wp2
  go_ret
  exact⟨ret_int hE.out.symm,by go_grown⟩
 ·rcases hv with⟨rfl,rfl⟩|⟨x,c,rfl,hc⟩
  ·go_enter func39,ntmps39
   go_wp2
   go_loop [3] (fun i=>i=.int .i64 0) (fun i=>0)
   case atStart=>exact rfl
   case round=>
    subst hrel
    go_wp2
    go_ret
    exact⟨rfl,by go_grown⟩
  ·obtain ⟨n,hn⟩:=named L.length
   have HC:=hide hc
   have HN:=hide hn
   rw[← hn]at hl ⊢
   clear hc hn
   go_enter func39,ntmps39
   go_wp2
   go_loopw [3] (fun i wr=>∃k:Nat,k≤n∧i=.int .i64 k∧(∀r∈L.take k,okR r)∧Below w.heap.size w wr) (fun i _=>n - (intOf i).toNat)
   case atStart=>exact⟨0,Nat.zero_le _,rfl,by simp,belR _ _⟩
   case round=>
    obtain⟨k,hk,rfl,hok,hb⟩:=hrel
    have hok:=hide hok
    by_cases hlt:k<n
    ·have hkL:k<L.length:=by have:=HN.out;omega
     obtain⟨c1,c2⟩:=(HC.out.below hb) k hkL
     obtain⟨r,hr⟩:=named (L[k])
     rw[← hr]at c1 c2
     have HR:=hide hr
     obtain⟨a,b⟩:=r
     simp only at c1 c2
     clear hr
     have e1:(k:Int)<(n:Int):=by omega
     have e0:(0:Int)≤(k:Int):=by omega
     by_cases hab:okR (a,b)
     ·have hab':=hab
      unfold okR at hab'
      simp only at hab'
      obtain⟨h0,h1,h2⟩:=hab'
      have HAB:=hide hab
      have HA:=hide (fun w=>isR_yes a w h0 (by omega))
      have HB:=hide (fun w=>isR_yes b w (by omega) h2)
      clear hab
      go_wp2
      go_quiet (first|(go_at_call 49;first|refine Calls.quiet_of_same (HA.out _)|refine Calls.quiet_of_same (HB.out _)))
      go_wp2
      go_roundw
      case rel=>exact⟨k+1,by omega,by go_num,all_take_succ hkL hok.out (by rw[← HR.out];exact HAB.out),below_drewN hb _⟩
      case measure=>simp[intOf];omega
     ·have hE:Hid (rightE L=3):=rightE_no (by have:=HN.out;omega) (r:=(a,b)) (by rw[HR.out];exact List.getElem_mem _) hab
      unfold okR at hab
      simp only at hab
      by_cases h1:0≤a∧a≤1114111
      ·have HA:=hide (fun w=>isR_yes a w h1.1 h1.2)
       by_cases h2:0≤b∧b≤1114111
       ·have h3:b<a:=by omega
        have HB:=hide (fun w=>isR_yes b w h2.1 h2.2)
        clear hab
        go_wp2
        go_quiet (first|(go_at_call 49;first|refine Calls.quiet_of_same (HA.out _)|refine Calls.quiet_of_same (HB.out _)))
        go_wp2
        go_ret
        exact⟨ret_int hE.out.symm,below_drewN hb _⟩
       ·have HB:=hide (fun w=>isR_no b w h2)
        clear hab h2
        go_wp2
        go_quiet (first|(go_at_call 49;first|refine Calls.quiet_of_same (HA.out _)|refine Calls.quiet_of_same (HB.out _)))
        go_wp2
        go_ret
        exact⟨ret_int hE.out.symm,below_drewN hb _⟩
      ·have HA:=hide (fun w=>isR_no a w h1)
       clear hab h1
       go_wp2
       go_quiet (first|(go_at_call 49;first|refine Calls.quiet_of_same (HA.out _)))
       go_wp2
       go_ret
       exact⟨ret_int hE.out.symm,below_drewN hb _⟩
    ·have hkn:k=n:=by omega
     have hE:Hid (rightE L=0):=by
      have h:=hok.out
      rw[hkn,HN.out,List.take_length]at h
      exact rightE_ok.2 ⟨by have:=HN.out;omega,h⟩
     go_wp2
     go_ret
     exact⟨ret_int hE.out.symm,hb⟩
theorem checkSet_any(v:Value)(L:RL)(w:World)(hv:Reads w v L):Calls prog 17 #[v] w fun e w'=>e=.returned (.int .i64 (checkE L))∧Below w.heap.size w w':=by
 have H:=hide (rightRanges_any v L w hv)
 by_cases hr:rightE L=0
 ·rw [hr] at H
  obtain⟨hlen,hok⟩:=rightE_ok.1 hr
  have HR:=hide hr
  have HO:=hide hok
  clear hr hok
  rcases hv with⟨rfl,rfl⟩|⟨x,c,rfl,hc⟩
  ·go_enter func17,ntmps17
   go_wp2_with fail
   refine H.out.mono ?_
   rintro e w1 ⟨rfl,hb1⟩
   clear H
   go_wp2
   go_loopw [3,4] (fun e i wr=>e=.int .i64 0∧i=.int .i64 1∧w1=wr) (fun _ i _=>0)
   case atStart=>exact⟨rfl,rfl,rfl⟩
   case round=>
    obtain⟨rfl,rfl,rfl⟩:=hrel
    go_wp2
    go_ret
    exact⟨ret_int rfl,hb1⟩
  ·obtain ⟨n,hn⟩:=named L.length
   have HC:=hide hc
   have HN:=hide hn
   rw[← hn]at hlen H ⊢
   clear hc hn
   go_enter func17,ntmps17
   go_wp2_with fail
   refine H.out.mono ?_
   rintro e w1 ⟨rfl,hb1⟩
   clear H
   go_wp2
   go_loopw [3,4] (fun e i wr=>∃k:Nat,k≤n∧i=.int .i64 (k+1)∧((e=.int .i64 0∧∀j (h:j+1<L.length),j<k→L[j].2+1<L[j+1].1)∨(e=.int .i64 4∧checkE L=4))∧Below w.heap.size w wr) (fun _ i _=>n+1 - (intOf i).toNat)
   case atStart=>exact⟨0,Nat.zero_le _,rfl,.inl ⟨rfl,fun j h hj=>by omega⟩,hb1⟩
   case round=>
    obtain⟨k,hk,rfl,hch,hb⟩:=hrel
    rcases hch with⟨rfl,hch⟩|⟨rfl,hE⟩
    ·have HCh:=hide hch
     clear hch
     by_cases hlt:k+1<n
     ·have hkL:k+1<L.length:=by have:=HN.out;omega
      have hkL':k<L.length:=by omega
      obtain⟨c1,c2⟩:=(HC.out.below hb) (k+1) hkL
      obtain⟨c3,c4⟩:=(HC.out.below hb) k hkL'
      have hr1:=HO.out L[k] (List.getElem_mem _)
      unfold okR at hr1
      obtain⟨b,hb'⟩:=named (L[k].2)
      obtain⟨a,ha'⟩:=named (L[k+1].1)
      rw[← ha']at c1
      rw[← hb']at c4 hr1
      have HA:=hide ha'
      have HB:=hide hb'
      obtain⟨_,hr2,hr3⟩:=hr1
      have hr4:0≤b:=by omega
      clear c2 c3 ha' hb' hr2
      have e1:(k:Int)+1<(n:Int):=by omega
      have e2:(k:Int)<(n:Int):=by omega
      have e0:(0:Int)≤(k:Int):=by omega
      have wb:IntKind.i64.wrap (b+2)=b+2:=by rw[IntKind.wrap_i64];omega
      by_cases hab:a<b+2
      ·have hE:Hid (checkE L=4):=checkE_no HR.out hkL (by rw[← HA.out, ←HB.out];omega)
       go_wp2
       go_quiet (fail)
       go_wp2
       go_roundw
       case rel=>exact⟨k+1,by omega,by go_num,.inr ⟨rfl,hE.out⟩,below_drewN hb _⟩
       case measure=>simp[intOf];omega
      ·have HNab:=hide hab
       have hd:decide (a<b+2)=false:=by simpa using hab
       clear hab
       go_wp2
       go_quiet (fail)
       go_wp2
       go_roundw
       case rel=>exact⟨k+1,by omega,by go_num,.inl ⟨rfl,fun j h hj=>by
        by_cases hjk:j=k
        ·subst hjk;rw[← HA.out, ←HB.out];have:=HNab.out;omega
        ·exact HCh.out j h (by omega)⟩,below_drewN hb _⟩
       case measure=>simp[intOf];omega
     ·have hE:Hid (checkE L=0):=checkE_yes HR.out fun j h=>HCh.out j h (by have:=HN.out;omega)
      go_wp2
      go_ret
      exact⟨ret_int hE.out.symm,hb⟩
    ·have HE:=hide hE
     clear hE
     by_cases hlt:k+1<n
     ·have e1:(k:Int)+1<(n:Int):=by omega
      go_wp2
      go_ret
      exact⟨ret_int HE.out.symm,hb⟩
     ·have e1:¬(k:Int)+1<(n:Int):=by omega
      go_wp2
      go_ret
      exact⟨ret_int HE.out.symm,hb⟩
 ·have hE:Hid (checkE L=rightE L):=checkE_bad hr
  obtain⟨ao,c,rfl⟩:=hv.shape
  clear hv
  obtain⟨z,hz⟩:=named (rightE L)
  rw[← hz]at hr H hE
  have hz0:(z==0)=false:=by simpa using hr
  obtain⟨n,hn⟩:=named L.length
  rw[← hn]at H ⊢
  clear hz hr hn
  go_enter func17,ntmps17
  go_wp2_with fail
  refine H.out.mono ?_
  rintro e w1 ⟨rfl,hb1⟩
  go_wp2
  go_loopw [3,4] (fun e i wr=>e=.int .i64 z∧i=.int .i64 1∧w1=wr) (fun _ i _=>0)
  case atStart=>exact⟨rfl,rfl,rfl⟩
  case round=>
   obtain⟨rfl,rfl,rfl⟩:=hrel
   by_cases hlt:1<n
   ·have e1:(1:Int)<(n:Int):=by omega
    go_wp2
    go_ret
    exact⟨ret_int hE.out.symm,hb1⟩
   ·have e1:¬(1:Int)<(n:Int):=by omega
    go_wp2
    go_ret
    exact⟨ret_int hE.out.symm,hb1⟩
end Go.Proofs.YtfnndcbjklppeaaGreatDoor
