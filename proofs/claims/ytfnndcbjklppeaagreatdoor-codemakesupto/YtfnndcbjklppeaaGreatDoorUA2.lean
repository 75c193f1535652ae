import Derived.Test.YtfnndcbjklppeaaGreatDoorZp
import Derived.WalkKit
import Derived.Test.YtfnndcbjklppeaaGreatDoorProg
import Derived.WalkLawsBesides
import Derived.Handy
import Derived.BigQuiet
import Derived.Deep.QuietTactic
import Derived.OneCell
set_option linter.unusedVariables false
set_option maxHeartbeats 400000
open Go.Proofs.Tryz
namespace Go.Proofs.YtfnndcbjklppeaaGreatDoor
abbrev RL:Type:=List (Int×Int)
def ins(L:RL)(p:Int):Bool:=L.any fun r=>decide (r.1≤p)&&decide (p≤r.2)
def okR(r:Int×Int):Prop:=0≤r.1∧r.1≤r.2∧r.2≤1114111
def Canon(L:RL):Prop:=(∀r∈L,okR r)∧L.Pairwise (fun a b=>a.2+1<b.1)
theorem ins_cons(r:Int×Int)(L:RL)(p:Int):ins (r::L) p=((decide (r.1≤p)&&decide (p≤r.2))||ins L p):=rfl
theorem ins_iff(L:RL)(p:Int):ins L p=true↔∃r∈L,r.1≤p∧p≤r.2:=by simp[ins]
theorem ins_false(L:RL)(p:Int):ins L p=false↔∀r∈L,¬(r.1≤p∧p≤r.2):=by
 rw[← Bool.not_eq_true,ins_iff];simp
theorem canon_cons{r:Int×Int}{L:RL}:Canon (r::L)↔okR r∧(∀x∈L,r.2+1<x.1)∧Canon L:=by
 unfold Canon
 rw[List.pairwise_cons]
 constructor
 ·rintro ⟨h1,h2,h3⟩
  exact⟨h1 r (by simp),h2,fun x hx=>h1 x (by simp[hx]),h3⟩
 ·rintro ⟨h1,h2,h3,h4⟩
  exact⟨fun x hx=>by rcases List.mem_cons.1 hx with rfl|hx;exact h1;exact h3 x hx,h2,h4⟩
def stretchL:RL→Int→Bool×Int
 |[],_=>(false,1114111)
 |r::L,p=>if r.2<p then stretchL L p else if p<r.1 then(false,r.1 - 1)else(true,r.2)
theorem stretch_spec:∀{L:RL} {p:Int},Canon L→0≤p→p≤1114111→p≤(stretchL L p).2∧(stretchL L p).2≤1114111∧∀q,p≤q→q≤(stretchL L p).2→ins L q=(stretchL L p).1:=by
 intro L p
 induction L with
 |nil=>intro _ h0 h1;simp[stretchL,ins];omega
 |cons r L ih=>
  intro hL h0 h1
  obtain⟨ho,ha,hc⟩:=canon_cons.1 hL
  unfold okR at ho
  unfold stretchL
  split
  ·rename_i hlt
   obtain⟨h2,h3,h4⟩:=ih hc h0 h1
   refine⟨h2,h3,fun q hq hq2=>?_⟩
   rw[ins_cons,h4 q hq hq2]
   have:(decide (r.1≤q)&&decide (q≤r.2))=false:=by simp;omega
   simp[this]
  ·rename_i hge
   split
   ·rename_i hlt
    refine⟨by simp only;omega,by simp only;omega,fun q hq hq2=>?_⟩
    simp only at hq2 ⊢
    rw[ins_false]
    intro x hx
    rcases List.mem_cons.1 hx with rfl|hx
    ·omega
    ·have:=ha x hx;omega
   ·refine ⟨by simp only;omega,by simp only;omega,fun q hq hq2=>?_⟩
    simp only at hq2 ⊢
    rw[ins_cons]
    have:(decide (r.1≤q)&&decide (q≤r.2))=true:=by simp;omega
    simp[this]
theorem stretch_ins{L:RL}{p:Int}(hL:Canon L)(h0:0≤p)(h1:p≤1114111):(stretchL L p).1=ins L p:=by
 obtain⟨h2,_,h3⟩:=stretch_spec hL h0 h1
 exact(h3 p (Int.le_refl _) h2).symm
theorem stretch_at:∀(L:RL) (p:Int),∀k,k=L.countP (fun r=>decide (r.2<p))→Canon L→(k=L.length→stretchL L p=(false,1114111))∧∀(h:k<L.length),stretchL L p=if p<L[k].1 then(false,L[k].1 - 1)else(true,L[k].2):=by
 intro L
 induction L with
 |nil=>intro p k hk _;simp at hk;subst hk;exact⟨fun _=>rfl,fun h=>by simp at h⟩
 |cons r L ih=>
  intro p k hk hL
  obtain⟨ho,ha,hc⟩:=canon_cons.1 hL
  unfold okR at ho
  rw[List.countP_cons]at hk
  by_cases hlt:r.2<p
  ·simp only[hlt,decide_true,if_true]at hk
   subst hk
   obtain⟨h1,h2⟩:=ih p _ rfl hc
   constructor
   ·intro he
    unfold stretchL
    rw[if_pos hlt]
    exact h1 (by simpa using he)
   ·intro h
    unfold stretchL
    rw[if_pos hlt,h2 (by simpa using h)]
    simp
  ·have hz:L.countP (fun r=>decide (r.2<p))=0:=by
    rw[List.countP_eq_zero]
    intro x hx
    have:=ha x hx
    have:=hc.1 x hx
    unfold okR at this
    simp;omega
   simp only[hlt,decide_false,Bool.false_eq_true,if_false,hz]at hk
   subst hk
   constructor
   ·intro he;simp at he
   ·intro _
    unfold stretchL
    rw[if_neg hlt]
    simp
end Go.Proofs.YtfnndcbjklppeaaGreatDoor
namespace Go.Proofs.YtfnndcbjklppeaaGreatDoor
open Go.RowKit
theorem hide{p:Prop}(h:p):Hid p:=h
theorem ret_bool{a b:Bool}(h:a=b):Ending.returned (.bool a)=.returned (.bool b):=by rw[h]
theorem ret_int{k:IntKind}{a b:Int}(h:a=b):Ending.returned (.int k a)=.returned (.int k b):=by rw[h]
def i64s(l:List Int):List Value:=l.map (Value.int .i64)
def Cells2(w:World)(x:Addr)(L:RL):Prop:=∀j (h:j<L.length),w.cell? (x.add (j*2))=some (.int .i64 L[j].1)∧w.cell? ⟨(x.add (j*2)).block,(x.add (j*2)).off+1,none⟩=some (.int .i64 L[j].2)
def Reads(w:World)(v:Value)(L:RL):Prop:=(v=.slice none 0 0∧L=[])∨∃x c,v=.slice (some x) L.length c∧Cells2 w x L
theorem lt_of_cell{w:World}{a:Addr}{v:Value}(h:w.cell? a=some v):a.block<w.heap.size:=World.block_lt_of_cell? _ _ h
theorem below_cell{B:Nat}{w w':World}(hb:Below B w w'){a:Addr}{v:Value}(ha:a.block<B)(h:w.cell? a=some v):w'.cell? a=some v:=by
 rw[← h]
 unfold World.cell?
 rw[hb.block a.block ha]
theorem Cells2.below{w w':World}{x:Addr}{L:RL}(h:Cells2 w x L)(hb:Below w.heap.size w w'):Cells2 w' x L:=fun j hj=>
 ⟨below_cell hb (lt_of_cell (h j hj).1) (h j hj).1,below_cell hb (lt_of_cell (h j hj).2) (h j hj).2⟩
theorem Reads.below{w w':World}{v:Value}{L:RL}(h:Reads w v L)(hb:Below w.heap.size w w'):Reads w' v L:=by
 rcases h with h|⟨x,c,h1,h2⟩
 ·exact .inl h
 ·exact .inr ⟨x,c,h1,h2.below hb⟩
theorem Reads.shape{w:World}{v:Value}{L:RL}(h:Reads w v L):∃ao c,v=.slice ao L.length c:=by
 rcases h with⟨rfl,rfl⟩|⟨x,c,h1,h2⟩
 ·exact⟨none,0,rfl⟩
 ·exact⟨some x,c,h1⟩
theorem below_drewN{B:Nat}{w w':World}(h:Below B w w')(q:Nat):Below B w (w'.drewN q):=⟨h.1,h.2,h.3,h.4,h.5⟩
theorem reads_nil(w:World):Reads w (.slice none 0 0) []:=.inl ⟨rfl,rfl⟩
theorem is_any(p:Int)(w:World):Calls prog 98 #[.int .i64 p] w fun e w'=>e=.returned (.bool (decide (0≤p∧p≤1114111)))∧w=w':=by
 go_enter func98,ntmps98
 go_wp2
 all_goals go_ret
 all_goals exact⟨ret_bool (by rw[Bool.eq_iff_iff];simp<;>omega),rfl⟩
theorem isR_any(p:Int)(w:World):Calls prog 49 #[.int .i64 p] w fun e w'=>e=.returned (.bool (decide (0≤p∧p≤1114111)))∧w=w':=by
 go_enter func49,ntmps49
 go_wp2
 all_goals go_ret
 all_goals exact⟨ret_bool (by rw[Bool.eq_iff_iff];simp<;>omega),rfl⟩
def okB(r:Int×Int):Bool:=decide (0≤r.1)&&decide (r.1≤r.2)&&decide (r.2≤1114111)
theorem okB_iff(r:Int×Int):okB r=true↔okR r:=by simp[okB,okR];omega
def rightE(L:RL):Int:=if 400<L.length then 2 else if L.all okB then 0 else 3
def chainB:RL→Bool
 |[]=>true
 |[_]=>true
 |a::b::L=>decide (a.2+1<b.1)&&chainB (b::L)
def checkE(L:RL):Int:=if rightE L=0 then(if chainB L then 0 else 4)else rightE L
theorem chainB_iff(L:RL):chainB L=true↔∀j (h:j+1<L.length),L[j].2+1<L[j+1].1:=by
 induction L with
 |nil=>simp[chainB]
 |cons a L ih=>
  cases L with
  |nil=>simp[chainB]
  |cons b L=>
   simp only[chainB,Bool.and_eq_true,decide_eq_true_eq,ih]
   constructor
   ·rintro ⟨h1,h2⟩ j hj
    match j with
    |0=>exact h1
    |j+1=>exact h2 j (by simpa using hj)
   ·intro h
    exact⟨h 0 (by simp),fun j hj=>h (j+1) (by simpa using hj)⟩
theorem rightE_ok{L:RL}:rightE L=0↔L.length≤400∧∀r∈L,okR r:=by
 unfold rightE
 split
 ·simp;omega
 ·split
  ·rename_i h1 h2
   rw[List.all_eq_true]at h2
   simp only[true_iff]
   exact⟨by omega,fun r hr=>(okB_iff r).1 (h2 r hr)⟩
  ·rename_i h1 h2
   simp only[show (3:Int)=0↔False from by simp,false_iff]
   rintro⟨_,h3⟩
   exact h2 (List.all_eq_true.2 fun r hr=>(okB_iff r).2 (h3 r hr))
theorem chain_pairwise:∀{L:RL},(∀r∈L,okR r)→chainB L=true→L.Pairwise (fun a b=>a.2+1<b.1):=by
 intro L
 induction L with
 |nil=>intro _ _;exact List.Pairwise.nil
 |cons a L ih=>
  intro hok h
  cases L with
  |nil=>exact List.pairwise_singleton _ _
  |cons b L=>
   simp only[chainB,Bool.and_eq_true,decide_eq_true_eq]at h
   have hp:=ih (fun r hr=>hok r (by simp[hr])) h.2
   refine List.pairwise_cons.2 ⟨fun x hx=>?_,hp⟩
   rcases List.mem_cons.1 hx with rfl|hx
   ·exact h.1
   ·have h1:=(List.pairwise_cons.1 hp).1 x hx
    have h2:=hok b (by simp)
    unfold okR at h2
    omega
theorem pairwise_chain:∀{L:RL},L.Pairwise (fun a b=>a.2+1<b.1)→chainB L=true:=by
 intro L
 induction L with
 |nil=>intro _;rfl
 |cons a L ih=>
  intro h
  cases L with
  |nil=>rfl
  |cons b L=>
   rw[List.pairwise_cons]at h
   simp only[chainB,Bool.and_eq_true,decide_eq_true_eq]
   exact⟨h.1 b (by simp),ih h.2⟩
theorem checkE_ok{L:RL}:checkE L=0↔L.length≤400∧Canon L:=by
 unfold checkE
 constructor
 ·intro h
  split at h
  ·rename_i h1
   split at h
   ·rename_i h2
    obtain⟨h3,h4⟩:=rightE_ok.1 h1
    exact⟨h3,h4,chain_pairwise h4 h2⟩
   ·simp at h
  ·rename_i h1;exact absurd h h1
 ·rintro ⟨h1,h2,h3⟩
  rw[if_pos (rightE_ok.2 ⟨h1,h2⟩),if_pos (pairwise_chain h3)]
end Go.Proofs.YtfnndcbjklppeaaGreatDoor
