import Derived.Test.YtfnndcbjklppeaaGreatDoorUL2
set_option maxHeartbeats 4000000
set_option maxRecDepth 100000
set_option linter.unusedVariables false
open Go.Proofs.Tryz
namespace Go.Proofs.YtfnndcbjklppeaaGreatDoor
open Go.RowKit
theorem allOf_2(o:OpV)(w:World):Calls prog 36 #[fvV ⟨1,1,false,false,false,false,false⟩,opV o] w fun e w'=>e=.returned (.bool (formB ⟨1,1,false,false,false,false,false⟩ o))∧Below w.heap.size w w':=by
 have hbl:Hid (Below w.heap.size w ((w.alloc (fvO ⟨1,1,false,false,false,false,false⟩)).alloc (opO o))):=(allocB _ _).alloc (by simp) _
 obtain⟨dn,sa,sl,sc,to,other,kind,least,fold,back⟩:=o
 by_cases hsl:sl=0
 ·subst hsl
  by_cases hkind:kind=0
  ·subst hkind
   by_cases hleast:least=0
   ·subst hleast
    cases fold with
    |true=>
     have hE:Hid (formB ⟨1,1,false,false,false,false,false⟩ ⟨dn,sa,0,sc,to,other,0,0,true,back⟩=false):=by show _=_;simp[formB]
     go_enter func36,ntmps36
     change Code.wp prog cAll _ _ _
     unfold cAll
     go_wp2
     go_ret
     exact⟨by rw[hE.out];rfl,hbl.out⟩
    |false=>
     cases back with
     |true=>
      have hE:Hid (formB ⟨1,1,false,false,false,false,false⟩ ⟨dn,sa,0,sc,to,other,0,0,false,true⟩=false):=by show _=_;simp[formB]
      go_enter func36,ntmps36
      change Code.wp prog cAll _ _ _
      unfold cAll
      go_wp2
      go_ret
      exact⟨by rw[hE.out];rfl,hbl.out⟩
     |false=>
      have hE:Hid (formB ⟨1,1,false,false,false,false,false⟩ ⟨dn,sa,0,sc,to,other,0,0,false,false⟩=true):=by show _=_;simp[formB]
      go_enter func36,ntmps36
      change Code.wp prog cAll _ _ _
      unfold cAll
      go_wp2
      go_ret
      exact⟨by rw[hE.out];rfl,hbl.out⟩
   ·have hE:Hid (formB ⟨1,1,false,false,false,false,false⟩ ⟨dn,sa,0,sc,to,other,0,least,fold,back⟩=false):=by show _=_;simp[formB,hleast]
    have bleast:(least==0)=false:=by simpa using hleast
    clear hleast
    go_enter func36,ntmps36
    change Code.wp prog cAll _ _ _
    unfold cAll
    go_wp2
    go_ret
    exact⟨by rw[hE.out];rfl,hbl.out⟩
  ·have hE:Hid (formB ⟨1,1,false,false,false,false,false⟩ ⟨dn,sa,0,sc,to,other,kind,least,fold,back⟩=false):=by show _=_;simp[formB,hkind]
   have bkind:(kind==0)=false:=by simpa using hkind
   clear hkind
   go_enter func36,ntmps36
   change Code.wp prog cAll _ _ _
   unfold cAll
   go_wp2
   go_ret
   exact⟨by rw[hE.out];rfl,hbl.out⟩
 ·have hE:Hid (formB ⟨1,1,false,false,false,false,false⟩ ⟨dn,sa,sl,sc,to,other,kind,least,fold,back⟩=false):=by show _=_;simp[formB,hsl]
  have bsl:((sl:Int)==0)=false:=by simp;omega
  clear hsl
  go_enter func36,ntmps36
  change Code.wp prog cAll _ _ _
  unfold cAll
  go_wp2
  go_ret
  exact⟨by rw[hE.out];rfl,hbl.out⟩
theorem allOf_6(o:OpV)(w:World):Calls prog 36 #[fvV ⟨3,0,false,false,false,false,false⟩,opV o] w fun e w'=>e=.returned (.bool (formB ⟨3,0,false,false,false,false,false⟩ o))∧Below w.heap.size w w':=by
 have hbl:Hid (Below w.heap.size w ((w.alloc (fvO ⟨3,0,false,false,false,false,false⟩)).alloc (opO o))):=(allocB _ _).alloc (by simp) _
 obtain⟨dn,sa,sl,sc,to,other,kind,least,fold,back⟩:=o
 by_cases hother:other=0
 ·subst hother
  by_cases hsl:sl=0
  ·subst hsl
   by_cases hkind:kind=0
   ·subst hkind
    by_cases hleast:least=0
    ·subst hleast
     cases fold with
     |true=>
      have hE:Hid (formB ⟨3,0,false,false,false,false,false⟩ ⟨dn,sa,0,sc,to,0,0,0,true,back⟩=false):=by show _=_;simp[formB]
      go_enter func36,ntmps36
      change Code.wp prog cAll _ _ _
      unfold cAll
      go_wp2
      go_ret
      exact⟨by rw[hE.out];rfl,hbl.out⟩
     |false=>
      cases back with
      |true=>
       have hE:Hid (formB ⟨3,0,false,false,false,false,false⟩ ⟨dn,sa,0,sc,to,0,0,0,false,true⟩=false):=by show _=_;simp[formB]
       go_enter func36,ntmps36
       change Code.wp prog cAll _ _ _
       unfold cAll
       go_wp2
       go_ret
       exact⟨by rw[hE.out];rfl,hbl.out⟩
      |false=>
       have hE:Hid (formB ⟨3,0,false,false,false,false,false⟩ ⟨dn,sa,0,sc,to,0,0,0,false,false⟩=true):=by show _=_;simp[formB]
       go_enter func36,ntmps36
       change Code.wp prog cAll _ _ _
       unfold cAll
       go_wp2
       go_ret
       exact⟨by rw[hE.out];rfl,hbl.out⟩
    ·have hE:Hid (formB ⟨3,0,false,false,false,false,false⟩ ⟨dn,sa,0,sc,to,0,0,least,fold,back⟩=false):=by show _=_;simp[formB,hleast]
     have bleast:(least==0)=false:=by simpa using hleast
     clear hleast
     go_enter func36,ntmps36
     change Code.wp prog cAll _ _ _
     unfold cAll
     go_wp2
     go_ret
     exact⟨by rw[hE.out];rfl,hbl.out⟩
   ·have hE:Hid (formB ⟨3,0,false,false,false,false,false⟩ ⟨dn,sa,0,sc,to,0,kind,least,fold,back⟩=false):=by show _=_;simp[formB,hkind]
    have bkind:(kind==0)=false:=by simpa using hkind
    clear hkind
    go_enter func36,ntmps36
    change Code.wp prog cAll _ _ _
    unfold cAll
    go_wp2
    go_ret
    exact⟨by rw[hE.out];rfl,hbl.out⟩
  ·have hE:Hid (formB ⟨3,0,false,false,false,false,false⟩ ⟨dn,sa,sl,sc,to,0,kind,least,fold,back⟩=false):=by show _=_;simp[formB,hsl]
   have bsl:((sl:Int)==0)=false:=by simp;omega
   clear hsl
   go_enter func36,ntmps36
   change Code.wp prog cAll _ _ _
   unfold cAll
   go_wp2
   go_ret
   exact⟨by rw[hE.out];rfl,hbl.out⟩
 ·have hE:Hid (formB ⟨3,0,false,false,false,false,false⟩ ⟨dn,sa,sl,sc,to,other,kind,least,fold,back⟩=false):=by show _=_;simp[formB,hother]
  have bother:(other==0)=false:=by simpa using hother
  clear hother
  go_enter func36,ntmps36
  change Code.wp prog cAll _ _ _
  unfold cAll
  go_wp2
  go_ret
  exact⟨by rw[hE.out];rfl,hbl.out⟩
theorem allOf_10(o:OpV)(w:World):Calls prog 36 #[fvV ⟨3,1,false,false,false,false,false⟩,opV o] w fun e w'=>e=.returned (.bool (formB ⟨3,1,false,false,false,false,false⟩ o))∧Below w.heap.size w w':=by
 have hbl:Hid (Below w.heap.size w ((w.alloc (fvO ⟨3,1,false,false,false,false,false⟩)).alloc (opO o))):=(allocB _ _).alloc (by simp) _
 obtain⟨dn,sa,sl,sc,to,other,kind,least,fold,back⟩:=o
 by_cases hsl:sl=0
 ·subst hsl
  by_cases hkind:kind=0
  ·subst hkind
   by_cases hleast:least=0
   ·subst hleast
    cases fold with
    |true=>
     have hE:Hid (formB ⟨3,1,false,false,false,false,false⟩ ⟨dn,sa,0,sc,to,other,0,0,true,back⟩=false):=by show _=_;simp[formB]
     go_enter func36,ntmps36
     change Code.wp prog cAll _ _ _
     unfold cAll
     go_wp2
     go_ret
     exact⟨by rw[hE.out];rfl,hbl.out⟩
    |false=>
     cases back with
     |true=>
      have hE:Hid (formB ⟨3,1,false,false,false,false,false⟩ ⟨dn,sa,0,sc,to,other,0,0,false,true⟩=false):=by show _=_;simp[formB]
      go_enter func36,ntmps36
      change Code.wp prog cAll _ _ _
      unfold cAll
      go_wp2
      go_ret
      exact⟨by rw[hE.out];rfl,hbl.out⟩
     |false=>
      have hE:Hid (formB ⟨3,1,false,false,false,false,false⟩ ⟨dn,sa,0,sc,to,other,0,0,false,false⟩=true):=by show _=_;simp[formB]
      go_enter func36,ntmps36
      change Code.wp prog cAll _ _ _
      unfold cAll
      go_wp2
      go_ret
      exact⟨by rw[hE.out];rfl,hbl.out⟩
   ·have hE:Hid (formB ⟨3,1,false,false,false,false,false⟩ ⟨dn,sa,0,sc,to,other,0,least,fold,back⟩=false):=by show _=_;simp[formB,hleast]
    have bleast:(least==0)=false:=by simpa using hleast
    clear hleast
    go_enter func36,ntmps36
    change Code.wp prog cAll _ _ _
    unfold cAll
    go_wp2
    go_ret
    exact⟨by rw[hE.out];rfl,hbl.out⟩
  ·have hE:Hid (formB ⟨3,1,false,false,false,false,false⟩ ⟨dn,sa,0,sc,to,other,kind,least,fold,back⟩=false):=by show _=_;simp[formB,hkind]
   have bkind:(kind==0)=false:=by simpa using hkind
   clear hkind
   go_enter func36,ntmps36
   change Code.wp prog cAll _ _ _
   unfold cAll
   go_wp2
   go_ret
   exact⟨by rw[hE.out];rfl,hbl.out⟩
 ·have hE:Hid (formB ⟨3,1,false,false,false,false,false⟩ ⟨dn,sa,sl,sc,to,other,kind,least,fold,back⟩=false):=by show _=_;simp[formB,hsl]
  have bsl:((sl:Int)==0)=false:=by simp;omega
  clear hsl
  go_enter func36,ntmps36
  change Code.wp prog cAll _ _ _
  unfold cAll
  go_wp2
  go_ret
  exact⟨by rw[hE.out];rfl,hbl.out⟩
theorem allOf_3(o:OpV)(w:World):Calls prog 36 #[fvV ⟨2,3,false,false,false,false,false⟩,opV o] w fun e w'=>e=.returned (.bool (formB ⟨2,3,false,false,false,false,false⟩ o))∧Below w.heap.size w w':=by
 have hbl:Hid (Below w.heap.size w ((w.alloc (fvO ⟨2,3,false,false,false,false,false⟩)).alloc (opO o))):=(allocB _ _).alloc (by simp) _
 obtain⟨dn,sa,sl,sc,to,other,kind,least,fold,back⟩:=o
 by_cases hsl:sl=0
 ·subst hsl
  by_cases hkind:kind=0
  ·subst hkind
   by_cases hleast:least=0
   ·subst hleast
    cases fold with
    |true=>
     have hE:Hid (formB ⟨2,3,false,false,false,false,false⟩ ⟨dn,sa,0,sc,to,other,0,0,true,back⟩=false):=by show _=_;simp[formB]
     go_enter func36,ntmps36
     change Code.wp prog cAll _ _ _
     unfold cAll
     go_wp2
     go_ret
     exact⟨by rw[hE.out];rfl,hbl.out⟩
    |false=>
     cases back with
     |true=>
      have hE:Hid (formB ⟨2,3,false,false,false,false,false⟩ ⟨dn,sa,0,sc,to,other,0,0,false,true⟩=false):=by show _=_;simp[formB]
      go_enter func36,ntmps36
      change Code.wp prog cAll _ _ _
      unfold cAll
      go_wp2
      go_ret
      exact⟨by rw[hE.out];rfl,hbl.out⟩
     |false=>
      have hE:Hid (formB ⟨2,3,false,false,false,false,false⟩ ⟨dn,sa,0,sc,to,other,0,0,false,false⟩=true):=by show _=_;simp[formB]
      go_enter func36,ntmps36
      change Code.wp prog cAll _ _ _
      unfold cAll
      go_wp2
      go_ret
      exact⟨by rw[hE.out];rfl,hbl.out⟩
   ·have hE:Hid (formB ⟨2,3,false,false,false,false,false⟩ ⟨dn,sa,0,sc,to,other,0,least,fold,back⟩=false):=by show _=_;simp[formB,hleast]
    have bleast:(least==0)=false:=by simpa using hleast
    clear hleast
    go_enter func36,ntmps36
    change Code.wp prog cAll _ _ _
    unfold cAll
    go_wp2
    go_ret
    exact⟨by rw[hE.out];rfl,hbl.out⟩
  ·have hE:Hid (formB ⟨2,3,false,false,false,false,false⟩ ⟨dn,sa,0,sc,to,other,kind,least,fold,back⟩=false):=by show _=_;simp[formB,hkind]
   have bkind:(kind==0)=false:=by simpa using hkind
   clear hkind
   go_enter func36,ntmps36
   change Code.wp prog cAll _ _ _
   unfold cAll
   go_wp2
   go_ret
   exact⟨by rw[hE.out];rfl,hbl.out⟩
 ·have hE:Hid (formB ⟨2,3,false,false,false,false,false⟩ ⟨dn,sa,sl,sc,to,other,kind,least,fold,back⟩=false):=by show _=_;simp[formB,hsl]
  have bsl:((sl:Int)==0)=false:=by simp;omega
  clear hsl
  go_enter func36,ntmps36
  change Code.wp prog cAll _ _ _
  unfold cAll
  go_wp2
  go_ret
  exact⟨by rw[hE.out];rfl,hbl.out⟩
theorem allOf_7(o:OpV)(w:World):Calls prog 36 #[fvV ⟨3,0,false,false,false,false,true⟩,opV o] w fun e w'=>e=.returned (.bool (formB ⟨3,0,false,false,false,false,true⟩ o))∧Below w.heap.size w w':=by
 have hbl:Hid (Below w.heap.size w ((w.alloc (fvO ⟨3,0,false,false,false,false,true⟩)).alloc (opO o))):=(allocB _ _).alloc (by simp) _
 obtain⟨dn,sa,sl,sc,to,other,kind,least,fold,back⟩:=o
 by_cases hother:other=0
 ·subst hother
  by_cases hsl:sl=0
  ·subst hsl
   by_cases hkind:kind=0
   ·subst hkind
    by_cases hleast:least=0
    ·subst hleast
     cases fold with
     |true=>
      have hE:Hid (formB ⟨3,0,false,false,false,false,true⟩ ⟨dn,sa,0,sc,to,0,0,0,true,back⟩=false):=by show _=_;simp[formB]
      go_enter func36,ntmps36
      change Code.wp prog cAll _ _ _
      unfold cAll
      go_wp2
      go_ret
      exact⟨by rw[hE.out];rfl,hbl.out⟩
     |false=>
      have hE:Hid (formB ⟨3,0,false,false,false,false,true⟩ ⟨dn,sa,0,sc,to,0,0,0,false,back⟩=true):=by show _=_;simp[formB]
      go_enter func36,ntmps36
      change Code.wp prog cAll _ _ _
      unfold cAll
      go_wp2
      go_ret
      exact⟨by rw[hE.out];rfl,hbl.out⟩
    ·have hE:Hid (formB ⟨3,0,false,false,false,false,true⟩ ⟨dn,sa,0,sc,to,0,0,least,fold,back⟩=false):=by show _=_;simp[formB,hleast]
     have bleast:(least==0)=false:=by simpa using hleast
     clear hleast
     go_enter func36,ntmps36
     change Code.wp prog cAll _ _ _
     unfold cAll
     go_wp2
     go_ret
     exact⟨by rw[hE.out];rfl,hbl.out⟩
   ·have hE:Hid (formB ⟨3,0,false,false,false,false,true⟩ ⟨dn,sa,0,sc,to,0,kind,least,fold,back⟩=false):=by show _=_;simp[formB,hkind]
    have bkind:(kind==0)=false:=by simpa using hkind
    clear hkind
    go_enter func36,ntmps36
    change Code.wp prog cAll _ _ _
    unfold cAll
    go_wp2
    go_ret
    exact⟨by rw[hE.out];rfl,hbl.out⟩
  ·have hE:Hid (formB ⟨3,0,false,false,false,false,true⟩ ⟨dn,sa,sl,sc,to,0,kind,least,fold,back⟩=false):=by show _=_;simp[formB,hsl]
   have bsl:((sl:Int)==0)=false:=by simp;omega
   clear hsl
   go_enter func36,ntmps36
   change Code.wp prog cAll _ _ _
   unfold cAll
   go_wp2
   go_ret
   exact⟨by rw[hE.out];rfl,hbl.out⟩
 ·have hE:Hid (formB ⟨3,0,false,false,false,false,true⟩ ⟨dn,sa,sl,sc,to,other,kind,least,fold,back⟩=false):=by show _=_;simp[formB,hother]
  have bother:(other==0)=false:=by simpa using hother
  clear hother
  go_enter func36,ntmps36
  change Code.wp prog cAll _ _ _
  unfold cAll
  go_wp2
  go_ret
  exact⟨by rw[hE.out];rfl,hbl.out⟩
theorem allOf_11(o:OpV)(w:World):Calls prog 36 #[fvV ⟨0,0,false,false,false,false,false⟩,opV o] w fun e w'=>e=.returned (.bool (formB ⟨0,0,false,false,false,false,false⟩ o))∧Below w.heap.size w w':=by
 have hbl:Hid (Below w.heap.size w ((w.alloc (fvO ⟨0,0,false,false,false,false,false⟩)).alloc (opO o))):=(allocB _ _).alloc (by simp) _
 obtain⟨dn,sa,sl,sc,to,other,kind,least,fold,back⟩:=o
 by_cases hto:to=0
 ·subst hto
  by_cases hother:other=0
  ·subst hother
   by_cases hsl:sl=0
   ·subst hsl
    by_cases hkind:kind=0
    ·subst hkind
     by_cases hleast:least=0
     ·subst hleast
      cases fold with
      |true=>
       have hE:Hid (formB ⟨0,0,false,false,false,false,false⟩ ⟨dn,sa,0,sc,0,0,0,0,true,back⟩=false):=by show _=_;simp[formB]
       go_enter func36,ntmps36
       change Code.wp prog cAll _ _ _
       unfold cAll
       go_wp2
       go_ret
       exact⟨by rw[hE.out];rfl,hbl.out⟩
      |false=>
       cases back with
       |true=>
        have hE:Hid (formB ⟨0,0,false,false,false,false,false⟩ ⟨dn,sa,0,sc,0,0,0,0,false,true⟩=false):=by show _=_;simp[formB]
        go_enter func36,ntmps36
        change Code.wp prog cAll _ _ _
        unfold cAll
        go_wp2
        go_ret
        exact⟨by rw[hE.out];rfl,hbl.out⟩
       |false=>
        have hE:Hid (formB ⟨0,0,false,false,false,false,false⟩ ⟨dn,sa,0,sc,0,0,0,0,false,false⟩=true):=by show _=_;simp[formB]
        go_enter func36,ntmps36
        change Code.wp prog cAll _ _ _
        unfold cAll
        go_wp2
        go_ret
        exact⟨by rw[hE.out];rfl,hbl.out⟩
     ·have hE:Hid (formB ⟨0,0,false,false,false,false,false⟩ ⟨dn,sa,0,sc,0,0,0,least,fold,back⟩=false):=by show _=_;simp[formB,hleast]
      have bleast:(least==0)=false:=by simpa using hleast
      clear hleast
      go_enter func36,ntmps36
      change Code.wp prog cAll _ _ _
      unfold cAll
      go_wp2
      go_ret
      exact⟨by rw[hE.out];rfl,hbl.out⟩
    ·have hE:Hid (formB ⟨0,0,false,false,false,false,false⟩ ⟨dn,sa,0,sc,0,0,kind,least,fold,back⟩=false):=by show _=_;simp[formB,hkind]
     have bkind:(kind==0)=false:=by simpa using hkind
     clear hkind
     go_enter func36,ntmps36
     change Code.wp prog cAll _ _ _
     unfold cAll
     go_wp2
     go_ret
     exact⟨by rw[hE.out];rfl,hbl.out⟩
   ·have hE:Hid (formB ⟨0,0,false,false,false,false,false⟩ ⟨dn,sa,sl,sc,0,0,kind,least,fold,back⟩=false):=by show _=_;simp[formB,hsl]
    have bsl:((sl:Int)==0)=false:=by simp;omega
    clear hsl
    go_enter func36,ntmps36
    change Code.wp prog cAll _ _ _
    unfold cAll
    go_wp2
    go_ret
    exact⟨by rw[hE.out];rfl,hbl.out⟩
  ·have hE:Hid (formB ⟨0,0,false,false,false,false,false⟩ ⟨dn,sa,sl,sc,0,other,kind,least,fold,back⟩=false):=by show _=_;simp[formB,hother]
   have bother:(other==0)=false:=by simpa using hother
   clear hother
   go_enter func36,ntmps36
   change Code.wp prog cAll _ _ _
   unfold cAll
   go_wp2
   go_ret
   exact⟨by rw[hE.out];rfl,hbl.out⟩
 ·have hE:Hid (formB ⟨0,0,false,false,false,false,false⟩ ⟨dn,sa,sl,sc,to,other,kind,least,fold,back⟩=false):=by show _=_;simp[formB,hto]
  have bto:(to==0)=false:=by simpa using hto
  clear hto
  go_enter func36,ntmps36
  change Code.wp prog cAll _ _ _
  unfold cAll
  go_wp2
  go_ret
  exact⟨by rw[hE.out];rfl,hbl.out⟩
end Go.Proofs.YtfnndcbjklppeaaGreatDoor
