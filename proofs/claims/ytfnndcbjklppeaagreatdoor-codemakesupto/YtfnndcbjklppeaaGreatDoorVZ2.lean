import Derived.Test.YtfnndcbjklppeaaGreatDoorUQ2
import Derived.PlainAid
set_option maxHeartbeats 4000000
set_option maxRecDepth 100000
set_option linter.unusedVariables false
open Go.Proofs.Tryz
namespace Go.Proofs.YtfnndcbjklppeaaGreatDoor
open Go.RowKit Go.PlainAid
def hasOneB(s t:ByteArray):Bool:=(List.range s.size).any fun i=>(List.range t.size).any fun k=>decide (bt s i=bt t k)
theorem hasOneB_yes{s t:ByteArray}{i k:Nat}(hi:i<s.size)(hk:k<t.size)(h:bt s i=bt t k):hasOneB s t=true:=by
 unfold hasOneB
 rw[List.any_eq_true]
 refine⟨i,by simpa using hi,?_⟩
 rw[List.any_eq_true]
 exact⟨k,by simpa using hk,by simpa using h⟩
theorem hasOneB_no{s t:ByteArray}(h:∀i,i<s.size→∀k,k<t.size→¬bt s i=bt t k):hasOneB s t=false:=by
 rw[Bool.eq_false_iff]
 intro hh
 unfold hasOneB at hh
 rw[List.any_eq_true]at hh
 obtain⟨i,hi,h2⟩:=hh
 rw[List.any_eq_true]at h2
 obtain⟨k,hk,h3⟩:=h2
 exact h i (by simpa using hi) k (by simpa using hk) (by simpa using h3)
theorem hasOne_any(s t:ByteArray)(hs:s.size<1000)(ht:t.size<1000)(w:World):Calls prog 16 #[.string s,.string t] w fun e w'=>e=.returned (.bool (hasOneB s t))∧Below w.heap.size w w':=by
 have hg:=get_bt s
 have hg2:=get_bt t
 obtain⟨R,hR⟩:=named (hasOneB s t)
 have HY:Hid (∀i k,i<s.size→k<t.size→bt s i=bt t k→R=true):=fun i k h1 h2 h3=>by rw[hR];exact hasOneB_yes h1 h2 h3
 have HN:Hid ((∀i,i<s.size→∀k,k<t.size→¬bt s i=bt t k)→R=false):=fun h=>by rw[hR];exact hasOneB_no h
 rw[← hR]
 clear hR
 go_enter func16,ntmps16
 go_wp2
 go_loopw [5] (fun c wr=>∃(j:Nat),j≤s.size∧c=.int .i64 j∧(∀i,i<j→∀k,k<t.size→¬bt s i=bt t k)∧Below w.heap.size w wr) (fun c _=>s.size - (intOf c).toNat)
 case atStart=>exact⟨0,Nat.zero_le _,rfl,fun i hi=>by omega,belR _ _⟩
 case round=>
  obtain⟨j,hj,rfl,hA,hb⟩:=hrel
  obtain⟨w5,hw5⟩:=named wr
  subst hw5
  have HA:=hide hA
  have HB5:=hide hb
  clear hA hb
  have e3:(0:Int)≤(j:Int):=by omega
  by_cases hlt:j<s.size
  ·have e2:(j:Int)<(s.size:Int):=by omega
   go_wp2
   go_loopw [6] (fun c wr=>∃(k:Nat),k≤t.size∧c=.int .i64 k∧(∀i,i<k→¬bt s j=bt t i)∧Below w.heap.size w wr) (fun c _=>t.size - (intOf c).toNat)
   case atStart=>exact⟨0,Nat.zero_le _,rfl,fun i hi=>by omega,HB5.out⟩
   case round=>
    obtain⟨k,hk,rfl,hA2,hb⟩:=hrel
    obtain⟨w6,hw6⟩:=named wr
    subst hw6
    have HA2:=hide hA2
    have HB6:=hide hb
    clear hA2 hb
    have e5:(0:Int)≤(k:Int):=by omega
    by_cases hlk:k<t.size
    ·have e6:(k:Int)<(t.size:Int):=by omega
     by_cases hbt:bt s j=bt t k
     ·have HE:Hid (R=true):=HY.out j k hlt hlk hbt
      have bb:(bt s j==bt t k)=true:=by simpa using hbt
      have HX:=hide hbt
      clear hbt
      go_wp2
      go_quiet (fail)
      go_wp2
      go_ret
      exact⟨by rw[HE.out];rfl,below_drewN HB6.out _⟩
     ·have bb:(bt s j==bt t k)=false:=by simpa using hbt
      have HX:=hide hbt
      clear hbt
      go_wp2
      go_quiet (fail)
      go_wp2
      go_roundw
      case rel=>exact⟨k+1,by omega,by go_num,fun i hi=>by
       by_cases hik:i=k
       ·rw[hik];exact HX.out
       ·exact HA2.out i (by omega),below_drewN HB6.out _⟩
      case measure=>simp[intOf];omega
    ·have e6:¬(k:Int)<(t.size:Int):=by omega
     go_wp2
     go_roundw
     case rel=>exact⟨j+1,by omega,by go_num,fun i hi m hm=>by
      by_cases hij:i=j
      ·rw[hij];exact HA2.out m (by omega)
      ·exact HA.out i (by omega) m hm,HB6.out⟩
     case measure=>simp[intOf];omega
  ·have e2:¬(j:Int)<(s.size:Int):=by omega
   have HE:Hid (R=false):=HN.out fun i hi=>HA.out i (by omega)
   go_wp2
   go_ret
   exact⟨by rw[HE.out];rfl,HB5.out⟩
def usesL:List ByteArray:=[⟨#[115]⟩,⟨#[116]⟩,⟨#[116,111]⟩,⟨#[103,100]⟩,⟨#[107]⟩,⟨#[103,102]⟩,⟨#[99]⟩,⟨#[99,98]⟩,⟨#[99,108]⟩,⟨#[99,108,111]⟩,⟨#[99,108,111]⟩,⟨#[99,111]⟩,⟨#[99]⟩,⟨#[]⟩,⟨#[]⟩]
def usesB(d:Int):ByteArray:=if 1≤d∧d≤15 then usesL.getD (d - 1).toNat ⟨#[]⟩else⟨#[45]⟩
theorem betw_any(p a b:Int)(w:World):Calls prog 20 #[.int .i64 p,.int .i64 a,.int .i64 b] w fun e w'=>e=.returned (.bool (decide (a≤p)&&decide (p≤b)))∧w'=w:=by
 by_cases h:a≤p
 ·have hE:Hid ((decide (a≤p)&&decide (p≤b))=decide (p≤b)):=by show _=_;simp[h]
  obtain⟨R,hR⟩:=named ((decide (a≤p)&&decide (p≤b)))
  rw[← hR]at hE ⊢
  clear hR
  go_enter func20,ntmps20
  go_wp2
  go_ret
  exact⟨by rw[hE.out];rfl,rfl⟩
 ·have hE:Hid ((decide (a≤p)&&decide (p≤b))=false):=by show _=_;simp[h]
  obtain⟨R,hR⟩:=named ((decide (a≤p)&&decide (p≤b)))
  rw[← hR]at hE ⊢
  clear hR
  go_enter func20,ntmps20
  go_wp2
  go_ret
  exact⟨by rw[hE.out];rfl,rfl⟩
theorem uses_any(d:Int)(w:World):Calls prog 15 #[.int .i64 d] w fun e w'=>e=.returned (.string (usesB d))∧Below w.heap.size w w':=by
 by_cases h:1≤d∧d≤15
 ·obtain ⟨h1,h2⟩:=h
  have hd:d=1∨d=2∨d=3∨d=4∨d=5∨d=6∨d=7∨d=8∨d=9∨d=10∨d=11∨d=12∨d=13∨d=14∨d=15:=by omega
  clear h1 h2
  rcases hd with rfl|rfl|rfl|rfl|rfl|rfl|rfl|rfl|rfl|rfl|rfl|rfl|rfl|rfl|rfl
  all_goals (go_enter func15,ntmps15)
  all_goals go_wp2
  all_goals go_ret
  all_goals exact⟨rfl,allocB _ _⟩
 ·have hE:Hid (usesB d=⟨#[45]⟩):=by show _=_;unfold usesB;rw[if_neg h]
  by_cases h1:d<1
  ·clear h
   go_enter func15,ntmps15
   go_wp2
   go_ret
   exact⟨by rw[hE.out];rfl,belR _ _⟩
  ·have h2:15<d:=by omega
   clear h
   go_enter func15,ntmps15
   go_wp2
   go_ret
   exact⟨by rw[hE.out];rfl,belR _ _⟩
theorem clo1_any(k:Nat)(oa:Option Addr)(ol oc:Nat)(g c z:Int)(w:World)(hx:w.heap[k]? =some (prO oa ol oc g c)):Calls prog 18 #[.int .i64 z,.pointer (some ⟨k,0,none⟩)] w fun e w'=>e=.returned (.bool (hasB 1 ol g c z))∧w'=w:=by
 obtain⟨p0,p1,p2⟩:=pr_cells hx
 clear hx
 by_cases hz:0≤z
 ·have hE:Hid (hasB 1 ol g c z=decide (z<ol)):=by show _=_;simp[hasB,hz]
  go_enter func18,ntmps18
  go_wp2
  go_ret
  exact⟨by rw[hE.out];rfl,rfl⟩
 ·have hE:Hid (hasB 1 ol g c z=false):=by show _=_;simp[hasB,hz]
  go_enter func18,ntmps18
  go_wp2
  go_ret
  exact⟨by rw[hE.out];rfl,rfl⟩
theorem clo2_any(k:Nat)(oa:Option Addr)(ol oc:Nat)(g c z:Int)(w:World)(hx:w.heap[k]? =some (prO oa ol oc g c)):Calls prog 19 #[.int .i64 z,.pointer (some ⟨k,0,none⟩)] w fun e w'=>e=.returned (.bool (hasB 3 ol g c z))∧w'=w:=by
 obtain⟨p0,p1,p2⟩:=pr_cells hx
 clear hx
 by_cases hz:0≤z
 ·have hE:Hid (hasB 3 ol g c z=decide (z<c)):=by show _=_;simp[hasB,hz]
  go_enter func19,ntmps19
  go_wp2
  go_ret
  exact⟨by rw[hE.out];rfl,rfl⟩
 ·have hE:Hid (hasB 3 ol g c z=false):=by show _=_;simp[hasB,hz]
  go_enter func19,ntmps19
  go_wp2
  go_ret
  exact⟨by rw[hE.out];rfl,rfl⟩
end Go.Proofs.YtfnndcbjklppeaaGreatDoor
