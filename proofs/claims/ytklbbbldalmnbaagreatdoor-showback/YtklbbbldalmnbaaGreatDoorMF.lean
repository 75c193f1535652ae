import Derived.Test.YtklbbbldalmnbaaGreatDoorMD
import Derived.Test.YtklbbbldalmnbaaGreatDoorME
import Derived.StillTailTactics
set_option maxHeartbeats 8000000
set_option linter.unusedVariables false
set_option maxRecDepth 100000
open Go.Proofs.Tryz
namespace Go.Proofs.YtklbbbldalmnbaaGreatDoor.Pa
open Go.RowKit
open TR (Tr NV aL cz aG aV bS)
open TK (Mv bJ)
open Br (BE PS aw bC ez bI OR)
variable {w w' : World} {g : Nat} {v : Value} {l : List Int} {d : Int} {s s' : St} {nv av : Value}
def C7(f:PS)(B:Nat)(w:World)(e:Ending)(w':World):Prop:=∃sv L,e=.returned sv/\OR w' B sv L/\bg f L/\L.length<=400/\Below w.heap.size w w'
theorem uz{f:PS}{L:RL}(h:bg f L)(hm:bC f=false):L.length<=400:=by
 rw[Br.eW h]at hm
 simpa using hm
theorem my(p:Int)(hp:0<=p/\p<=1114111)(w:World):Calls prog 131 #[.int .i64 p] w fun e w'=>C7 (jF p) w.heap.size w e w':=by
 have HS:=I (one_set hp)
 have HO:Hid (OR (w.alloc (.cells #[.int .i64 p,.int .i64 p] 76)) w.heap.size (.slice (some ⟨w.heap.size,0,none⟩) 1 1) [(p,p)]):=⟨rfl,.inr ⟨w.heap.size,1,_,rfl,U _,TK.aj _ _,U _,by decide,rfl,rfl⟩⟩
 clear hp
 go_enter func131,ntmps131
 go_wp2
 go_ret
 exact⟨_,_,rfl,HO.o,HS.o,by simp,(J _ w).alloc (U _) _⟩
theorem Es{B:Nat}{va:Value}{A:RL}{f:PS}(hA:OR w B va A)(hS:bg f A)(h1:bC f=false)(h2:bC (fun x=>!f x)=false):Calls prog 134 #[va] w fun e w'=>C7 (fun x=>!f x) w.heap.size w e w':=by
 have HN:=I (pc va A w hA.reads)
 have HB:Hid (∀err O,Made (fun q=>!ins A q) (bj A) err O->err=0/\bg (fun q=>!f q) O):=fun err O hm=>by
  rcases Br.pS hm (g':=fun q=>!f q) (m:=bC f) (fun q h0 h1=>by show(!ins A q)=(!f q);rw[Br.ff hS h0 h1]) (Br.ij hS)with⟨h3,_⟩|⟨_,h4,h5⟩
  ·rw[h1,h2]at h3;cases h3
  ·exact⟨h4,h5⟩
 obtain⟨ao,c,hv⟩:=hA.shape
 obtain⟨n,hn⟩:∃n,n=A.length:=⟨_,rfl⟩
 rw[<- hn]at hv
 rw[hv]at HN |-
 have H2:=I h2
 clear hA hS h1 h2 hv hn
 go_enter func134,ntmps134
 go_wp2_with fail
 refine HN.o.mono ?_
 rintro e w1 ⟨v',err,O,rfl,ho,hm,hb⟩
 obtain⟨rfl,hs⟩:=HB.o _ _ hm
 have HO:=I ho
 have HS:=I hs
 have HBB:=I hb
 obtain⟨so,sc,hsv⟩:=ax ho
 obtain⟨ln,hln⟩:∃ln,ln=O.length:=⟨_,rfl⟩
 rw[<- hln]at hsv
 rw[hsv]at HO |-
 clear ho hs hb hm hsv HB HN hln
 go_wp2
 go_ret
 exact⟨_,O,rfl,HO.o,HS.o,uz HS.o H2.o,HBB.o⟩
theorem zL{B:Nat}{va:Value}{A:RL}{f:PS}(h:RB w g v l d s nv av)(hB:B<=w.heap.size)(hA:OR w B va A)(hS:bg f A)(h1:bC f=false)(h2:bC (fM s.aD f)=false):Calls prog 130 #[.pointer (some ⟨g,0,none⟩),va] w fun e w'=>C7 (fM s.aD f) B w e w':=by
 have c12:=h.rd.2.2.2.2.1
 have HLen:=I (uz hS h1)
 have HA:=I hA
 have HS:=I hS
 have HN:=I (xz va A w h.Bl (Nat.lt_trans h.low h.lt) hA.reads)
 obtain⟨ao,c,hv⟩:=hA.shape
 obtain⟨n,hn⟩:∃n,n=A.length:=⟨_,rfl⟩
 rw[<- hn]at hv
 cases hf:s.aD with
 |false=>
  rw[hf]at c12
  rw[hv]at HA |-
  clear hA hS h1 h2 hv hn h HN
  go_enter func130,ntmps130
  go_wp2
  go_ret
  exact⟨_,A,rfl,HA.o,HS.o,HLen.o,J _ _⟩
 |true=>
  rw[hf]at c12 h2
  have HB:Hid (∀err O,Made (lL A) (bj A) err O->err=0/\bg (ez f) O):=fun err O hm=>by
   rcases Br.pS hm (g':=ez f) (m:=bC f) (fun q h0 h1=>(Br.xU hS q).symm) (Br.ij hS)with⟨h3,_⟩|⟨_,h4,h5⟩
   ·rw[h1,show bC (ez f)=false from h2]at h3;cases h3
   ·exact⟨h4,h5⟩
  rw[hv]at HN |-
  have H2:=I h2
  have HBs:=I hB
  clear hA hS h1 h2 hv hn h hB HA HS
  go_enter func130,ntmps130
  go_wp2_with fail
  refine HN.o.mono ?_
  rintro e w1 ⟨v',err,O,rfl,ho,hm,hb⟩
  obtain⟨rfl,hs⟩:=HB.o _ _ hm
  have HO:=I (eU ho HBs.o)
  have HS:=I hs
  have HBB:=I hb
  obtain⟨so,sc,hsv⟩:=ax ho
  obtain⟨ln,hln⟩:∃ln,ln=O.length:=⟨_,rfl⟩
  rw[<- hln]at hsv
  rw[hsv]at HO |-
  clear ho hs hb hm hsv HB HN hln
  go_wp2
  go_ret
  exact⟨_,O,rfl,HO.o,HS.o,uz HS.o H2.o,HBB.o⟩
theorem Fm(h:RB w g v l d s nv av){c:ByteArray}(hc:c=TK.ee\/c=TK.dK\/c=TK.eh\/c=TK.dw)(no:Bool):Calls prog 132 #[.pointer (some ⟨g,0,none⟩),.string c,.bool no] w fun e w'=>C7 (if no then(fun x=>!fM s.aD (ins (bI c)) x)else fM s.aD (ins (bI c))) w.heap.size w e w':=by
 have HC:=I (Br.qh c w (mX hc).2.1)
 have HR:=I h
 have H1:=I (zX hc s.aD)
 have H0:=I (zX hc false)
 have H2:=I (DV hc s.aD)
 clear h hc
 have HF:Hid (∀w1 va A,Below w.heap.size w w1->w1.ownsRow w.heap.size 76 2 va A.length (aN A)->bg (ins (bI c)) A->Calls prog 130 #[.pointer (some ⟨g,0,none⟩),va] w1 fun e w'=>C7 (fM s.aD (ins (bI c))) w.heap.size w1 e w'):=fun w1 va A hb ho hs=>zL (HR.o.ar hb) hb.size ho hs H0.o H1.o
 cases no with
 |false=>
  simp only[Bool.false_eq_true,if_false]
  go_enter func132,ntmps132
  go_wp2_with fail
  refine HC.o.mono ?_
  rintro e w1 ⟨va,A,rfl,ho,hs,hb⟩
  have HX:=I (HF.o w1 va A hb ho hs)
  have HB:=I hb
  obtain⟨so,sc,hsv⟩:=ax ho
  obtain⟨ln,hln⟩:∃ln,ln=A.length:=⟨_,rfl⟩
  rw[<- hln]at hsv
  rw[hsv]at HX |-
  clear ho hs hb hsv hln HF HC
  go_wp2_with fail
  refine HX.o.mono ?_
  rintro e w2 ⟨vb,L,rfl,ho,hs,hl,hb⟩
  have HO:=I ho
  have HS:=I hs
  have HL:=I hl
  have HB2:=I (HB.o.trans (hb.mono HB.o.size))
  obtain⟨so,sc,hsv⟩:=OR.shape ho
  obtain⟨ln,hln⟩:∃ln,ln=L.length:=⟨_,rfl⟩
  rw[<- hln]at hsv
  rw[hsv]at HO |-
  clear ho hs hb hsv hln HX hl
  go_wp2
  go_ret
  exact⟨_,L,rfl,HO.o,HS.o,HL.o,HB2.o⟩
 |true=>
  simp only[if_true]
  go_enter func132,ntmps132
  go_wp2_with fail
  refine HC.o.mono ?_
  rintro e w1 ⟨va,A,rfl,ho,hs,hb⟩
  have HX:=I (HF.o w1 va A hb ho hs)
  have HB:=I hb
  obtain⟨so,sc,hsv⟩:=ax ho
  obtain⟨ln,hln⟩:∃ln,ln=A.length:=⟨_,rfl⟩
  rw[<- hln]at hsv
  rw[hsv]at HX |-
  clear ho hs hb hsv hln HF HC
  go_wp2_with fail
  refine HX.o.mono ?_
  rintro e w2 ⟨vb,L,rfl,ho,hs,hl,hb⟩
  have HN:=I (Es ho hs H1.o H2.o)
  have HB2:=I (HB.o.trans (hb.mono HB.o.size))
  obtain⟨so,sc,hsv⟩:=OR.shape ho
  obtain⟨ln,hln⟩:∃ln,ln=L.length:=⟨_,rfl⟩
  rw[<- hln]at hsv
  rw[hsv]at HN |-
  clear ho hs hb hsv hln HX hl
  go_wp2_with fail
  refine HN.o.mono ?_
  rintro e w3 ⟨vb,L,rfl,ho,hs,hl,hb⟩
  have HO:=I (ho.low HB2.o.size)
  have HS:=I hs
  have HL:=I hl
  have HB3:=I (HB2.o.trans (hb.mono HB2.o.size))
  obtain⟨so,sc,hsv⟩:=OR.shape ho
  obtain⟨ln,hln⟩:∃ln,ln=L.length:=⟨_,rfl⟩
  rw[<- hln]at hsv
  rw[hsv]at HO |-
  clear ho hs hb hsv hln HN hl
  go_wp2
  go_ret
  exact⟨_,L,rfl,HO.o,HS.o,HL.o,HB3.o⟩
end Go.Proofs.YtklbbbldalmnbaaGreatDoor.Pa
namespace Go.Proofs.YtklbbbldalmnbaaGreatDoor.Pa
open Go.RowKit
open TR (Tr NV aL cz aG aV bS)
open TK (Mv bJ)
open Br (BE PS aw bC ez bI OR bm)
variable {w w' : World} {g : Nat} {v : Value} {l : List Int} {d : Int} {s s' : St} {nv av : Value}
def Ii(R:Except BE (PS×Nat))(g:Nat)(v:Value)(l:List Int)(d:Int)(s:St)(nv av:Value)(w:World)(e:Ending)(w':World):Prop:=
 (∃f k sv L,R=.ok (f,k)/\e=.returned sv/\OR w' w.heap.size sv L/\bg f L/\L.length<=400/\k<=l.length/\RB w' g v l d { s with next:=k } nv av/\Mv g w w')\/(∃z a,R=.error (z,a)/\e=aw z (max a (s.pos:Int))/\Mv g w w')
theorem zv(h:RB w g v l d s nv av){z a:Int}(hR:Br.dj d s.aD l (s.next:Int)=.error (z,a)):Calls prog 133 #[.pointer (some ⟨g,0,none⟩)] w fun e w'=>Ii (Br.dj d s.aD l (s.next:Int)) g v l d s nv av w e w':=by
 have HR0:=I h
 obtain⟨p,hp⟩:∃p,p=s.next:=⟨_,rfl⟩
 obtain⟨fo,hfo⟩:∃fo,fo=s.aD:=⟨_,rfl⟩
 have HX:Hid (∀W,RB W g v l d s nv av->∀Wc,Below W.heap.size W Wc->Calls prog 140 #[.int .i64 d,v,.int .i64 (p:Nat),.bool fo] Wc fun e w2=>e=.returned (.tuple #[.slice none 0 0,.int .i64 0,.agg #[.int .i64 (z),.int .i64 (a)]])/\z≠0/\Below W.heap.size W w2/\Below Wc.heap.size Wc w2):=by
  intro W hW Wc hWc
  have hWk:=hW.ar hWc
  have:=Br.sT d (p:Int) v l fo Wc hWk.pat hWk.Bl (Nat.lt_trans hWk.low hWk.lt)
  rw[hp,hfo,hR]at this
  rw[hp,hfo]
  refine this.mono ?_
  rintro e w2 (⟨f',k',sv,L,hR',he,ho,hs,hl,hkl,hb⟩|⟨z',c',hR',hz,he,hb⟩)
  ·cases hR'
  ·cases hR'
   exact⟨he,hz,hWc.trans (hb.mono hWc.size),hb⟩
 have HRR:=I hR
 obtain⟨ao,c,hv⟩:=h.pat.shape
 obtain⟨n,hnn⟩:∃n,n=l.length:=⟨_,rfl⟩
 rw[<- hnn]at hv
 have HV:=I hv
 have hgw:=h.lt
 have HD:=I (HX.o w h)
 have HP:=I hp
 have HFO:=I hfo
 have HNN:=I hnn
 rw[hv]at HD
 have HS:Hid (Below w.heap.size w w.drew):=⟨rfl,rfl,rfl,U _,fun _ _=>rfl⟩
 have HCl:Hid (∀w',Below w.heap.size w w'->w'.cell? ⟨g,0,none⟩=some (.int .i64 d)/\w'.cell? ⟨g,1,none⟩=some (.slice ao n c)/\w'.cell? ⟨g,11,none⟩=some (.int .i64 (p:Nat))/\w'.cell? ⟨g,12,none⟩=some (.bool fo)):=fun w' hS=>by
  obtain⟨y0,y1, -,y2,y3, -⟩:=(HR0.o.ar hS).rd
  rw[HV.o]at y1
  rw[<- HP.o]at y2
  rw[<- HFO.o]at y3
  exact⟨y0,y1,y2,y3⟩
 clear h hv hR hnn hp hfo HX
 go_enter func133,ntmps133
 go_upto_region 1 with fail
 refine wp_region_held (S:=fun w'=>Below w.heap.size w w') (by kernel_rfl) ?_
 change wpAnyH _ _ _ _ _ _ _ _ (World.drew _)
 refine wpAnyH_take (i:=0) (v:=.pointer (some ⟨g,0,none⟩)) rfl (by kernel_rfl) (by kernel_rfl) (by kernel_rfl) (fun _ _ _ h=>h) (Or.inl ⟨by kernel_rfl,fun w' hS=>?_⟩) HS.o ?_
 ·go_simp
 refine wpAnyH_take (i:=1) (v:=.pointer (some ⟨g,0,none⟩)) rfl (by kernel_rfl) (by kernel_rfl) (by kernel_rfl) (fun _ _ _ h=>h) (Or.inl ⟨by kernel_rfl,fun w' hS=>?_⟩) HS.o ?_
 ·go_simp
 refine wpAnyH_take (i:=2) (v:=.pointer (some ⟨g,0,none⟩)) rfl (by kernel_rfl) (by kernel_rfl) (by kernel_rfl) (fun _ _ _ h=>h) (Or.inl ⟨by kernel_rfl,fun w' hS=>?_⟩) HS.o ?_
 ·go_simp
 refine wpAnyH_take (i:=3) (v:=.int .i64 d) rfl (by kernel_rfl) (by kernel_rfl) (by kernel_rfl) (fun _ _ _ h=>h) (Or.inl ⟨by kernel_rfl,fun w' hS=>?_⟩) HS.o ?_
 ·(obtain⟨y0,y1,y2,y3⟩:=HCl.o w' hS;go_simp)
 refine wpAnyH_take (i:=4) (v:=.pointer (some ⟨g,0,none⟩)) rfl (by kernel_rfl) (by kernel_rfl) (by kernel_rfl) (fun _ _ _ h=>h) (Or.inl ⟨by kernel_rfl,fun w' hS=>?_⟩) HS.o ?_
 ·go_simp
 refine wpAnyH_take (i:=5) (v:=.pointer (some ⟨g,0,none⟩)) rfl (by kernel_rfl) (by kernel_rfl) (by kernel_rfl) (fun _ _ _ h=>h) (Or.inl ⟨by kernel_rfl,fun w' hS=>?_⟩) HS.o ?_
 ·go_simp
 refine wpAnyH_take (i:=6) (v:=.pointer (some ⟨g,1,none⟩)) rfl (by kernel_rfl) (by kernel_rfl) (by kernel_rfl) (fun _ _ _ h=>h) (Or.inl ⟨by kernel_rfl,fun w' hS=>?_⟩) HS.o ?_
 ·go_simp
 refine wpAnyH_take (i:=7) (v:=.slice ao n c) rfl (by kernel_rfl) (by kernel_rfl) (by kernel_rfl) (fun _ _ _ h=>h) (Or.inl ⟨by kernel_rfl,fun w' hS=>?_⟩) HS.o ?_
 ·(obtain⟨y0,y1,y2,y3⟩:=HCl.o w' hS;go_simp)
 refine wpAnyH_take (i:=8) (v:=.pointer (some ⟨g,0,none⟩)) rfl (by kernel_rfl) (by kernel_rfl) (by kernel_rfl) (fun _ _ _ h=>h) (Or.inl ⟨by kernel_rfl,fun w' hS=>?_⟩) HS.o ?_
 ·go_simp
 refine wpAnyH_take (i:=9) (v:=.pointer (some ⟨g,0,none⟩)) rfl (by kernel_rfl) (by kernel_rfl) (by kernel_rfl) (fun _ _ _ h=>h) (Or.inl ⟨by kernel_rfl,fun w' hS=>?_⟩) HS.o ?_
 ·go_simp
 refine wpAnyH_take (i:=10) (v:=.pointer (some ⟨g,11,none⟩)) rfl (by kernel_rfl) (by kernel_rfl) (by kernel_rfl) (fun _ _ _ h=>h) (Or.inl ⟨by kernel_rfl,fun w' hS=>?_⟩) HS.o ?_
 ·go_simp
 refine wpAnyH_take (i:=11) (v:=.int .i64 (p:Nat)) rfl (by kernel_rfl) (by kernel_rfl) (by kernel_rfl) (fun _ _ _ h=>h) (Or.inl ⟨by kernel_rfl,fun w' hS=>?_⟩) HS.o ?_
 ·(obtain⟨y0,y1,y2,y3⟩:=HCl.o w' hS;go_simp)
 refine wpAnyH_take (i:=12) (v:=.pointer (some ⟨g,0,none⟩)) rfl (by kernel_rfl) (by kernel_rfl) (by kernel_rfl) (fun _ _ _ h=>h) (Or.inl ⟨by kernel_rfl,fun w' hS=>?_⟩) HS.o ?_
 ·go_simp
 refine wpAnyH_take (i:=13) (v:=.pointer (some ⟨g,0,none⟩)) rfl (by kernel_rfl) (by kernel_rfl) (by kernel_rfl) (fun _ _ _ h=>h) (Or.inl ⟨by kernel_rfl,fun w' hS=>?_⟩) HS.o ?_
 ·go_simp
 refine wpAnyH_take (i:=14) (v:=.pointer (some ⟨g,12,none⟩)) rfl (by kernel_rfl) (by kernel_rfl) (by kernel_rfl) (fun _ _ _ h=>h) (Or.inl ⟨by kernel_rfl,fun w' hS=>?_⟩) HS.o ?_
 ·go_simp
 refine wpAnyH_take (i:=15) (v:=.bool fo) rfl (by kernel_rfl) (by kernel_rfl) (by kernel_rfl) (fun _ _ _ h=>h) (Or.inl ⟨by kernel_rfl,fun w' hS=>?_⟩) HS.o ?_
 ·(obtain⟨y0,y1,y2,y3⟩:=HCl.o w' hS;go_simp)
 refine wpAnyH_ready (rs:=[16,21]) (by kernel_rfl) (by simp) ?_
 refine AllReadyH.cons rfl (fun K hK=>?_) (AllReadyH.cons rfl (fun K hK=>?_) AllReadyH.nil)
 ·go_simp
  refine(HD.o _ HS.o).mono ?_
  rintro e w2 ⟨rfl,hz,hbW,hbc⟩
  have q1:(z !=0)=true:=by simpa using hz
  clear hz
  refine hK.out _ _ hbW (fun _=>?_)
  clear hK K
  refine wpAnyH_take (i:=17) (v:=.tuple #[.slice none 0 0,.int .i64 0,.agg #[.int .i64 (z),.int .i64 (a)]]) rfl (by kernel_rfl) (by kernel_rfl) (by kernel_rfl) (fun _ _ _ h=>h) (Or.inl ⟨by kernel_rfl,fun w' hS=>?_⟩) hbW ?_
  ·go_simp
  refine wpAnyH_take (i:=18) (v:=.slice none 0 0) rfl (by kernel_rfl) (by kernel_rfl) (by kernel_rfl) (fun _ _ _ h=>h) (Or.inl ⟨by kernel_rfl,fun w' hS=>?_⟩) hbW ?_
  ·go_simp
  refine wpAnyH_take (i:=19) (v:=.int .i64 0) rfl (by kernel_rfl) (by kernel_rfl) (by kernel_rfl) (fun _ _ _ h=>h) (Or.inl ⟨by kernel_rfl,fun w' hS=>?_⟩) hbW ?_
  ·go_simp
  refine wpAnyH_take (i:=20) (v:=.agg #[.int .i64 (z),.int .i64 (a)]) rfl (by kernel_rfl) (by kernel_rfl) (by kernel_rfl) (fun _ _ _ h=>h) (Or.inl ⟨by kernel_rfl,fun w' hS=>?_⟩) hbW ?_
  ·go_simp
  refine wpAnyH_ready (rs:=[21]) (by kernel_rfl) (by simp) ?_
  refine AllReadyH.cons rfl (fun K hK=>?_) AllReadyH.nil
  go_simp
  refine hK.out _ _ (hbW.alloc hbW.size _) (fun hS2=>?_)
  clear hK K
  refine wpAnyH_take (i:=22) (v:=.slice none 0 0) rfl (by kernel_rfl) (by kernel_rfl) (by kernel_rfl) (fun _ _ _ h=>h) (Or.inl ⟨by kernel_rfl,fun w' hS=>?_⟩) hS2 ?_
  ·go_simp
  refine wpAnyH_take (i:=23) (v:=.int .i64 0) rfl (by kernel_rfl) (by kernel_rfl) (by kernel_rfl) (fun _ _ _ h=>h) (Or.inl ⟨by kernel_rfl,fun w' hS=>?_⟩) hS2 ?_
  ·go_simp
  refine wpAnyH_ready (rs:=[24]) (by kernel_rfl) (by simp) ?_
  refine AllReadyH.cons rfl (fun K hK=>?_) AllReadyH.nil
  go_simp
  refine hK.out _ _ (hbW.alloc hbW.size _) (fun hS3=>?_)
  clear hK K
  refine wpAnyH_done (by kernel_rfl) ?_ _
  have hM3:=TK.aj w2 (bm z a)
  have hM3l:=hbW.size
  obtain⟨w3,hw3⟩:∃w3,w3=w2.alloc (bm z a):=⟨_,rfl⟩
  obtain⟨M,hMM⟩:∃M,M=w2.heap.size:=⟨_,rfl⟩
  rw[<- hw3]at hM3
  simp only[bm]at hw3
  rw[<- hw3]at hS3 |-
  rw[<- hMM]at hM3 hM3l |-
  clear hw3 hMM hbc hS2 hbW
  have hr3:=HR0.o.ar hS3
  have HR3:=I hr3
  have hm3:Hid (Mv g w w3):=Mv.ae hS3
  obtain⟨c0,c1,c10,c11, -⟩:=hr3.rd
  have f11:=hr3.fr 11
  obtain⟨g0,g1,gf⟩:=Br.bh hM3
  have hMg:¬M=g:=by omega
  have hgM:¬g=M:=by omega
  clear hr3 hS3 hM3 hM3l HD HCl HS HR0 c0 c1
  have HG:Hid (∀W,Calls prog 49 #[.int .i64 z,.int .i64 (max a (s.pos:Int))] W fun r w'=>r=aw z (max a (s.pos:Int))/\W=w'):=fun W=>aO z _ W
  simp only[aw]at HG
  go_upto_region 3 with fail
  go_still_tail 9,(by kernel_rfl)
  go_wp2_with fail
  refine(HG.o _).mono ?_
  rintro e w4 ⟨rfl,rfl⟩
  go_wp2
  exact⟨rfl,.inr ⟨z,a,HRR.o,rfl,hm3.o.trans ⟨rfl,rfl,rfl,U _,fun _ _ _=>rfl⟩⟩⟩
 ·go_simp
  have hb1:Below w.heap.size w (w.alloc (bm 0 0)).drew:=((J _ w).alloc (U _) _).drew
  refine hK.out _ _ hb1 (fun hS1=>?_)
  clear hK K
  refine wpAnyH_ready (rs:=[16]) (by kernel_rfl) (by simp) ?_
  refine AllReadyH.cons rfl (fun K hK=>?_) AllReadyH.nil
  go_simp
  refine(HD.o _ hS1).mono ?_
  rintro e w2 ⟨rfl,hz,hbW,hbc⟩
  have q1:(z !=0)=true:=by simpa using hz
  clear hz
  have hM:w2.heap[w.heap.size]? =some (bm 0 0):=by rw[hbc.block _ (by show _<(w.alloc _).heap.size;simp)];exact TK.aj _ _
  obtain⟨g0,g1,gf⟩:=Br.bh hM
  refine hK.out _ _ hbW (fun _=>?_)
  clear hK K
  refine wpAnyH_take (i:=17) (v:=.tuple #[.slice none 0 0,.int .i64 0,.agg #[.int .i64 (z),.int .i64 (a)]]) rfl (by kernel_rfl) (by kernel_rfl) (by kernel_rfl) (fun _ _ _ h=>h) (Or.inl ⟨by kernel_rfl,fun w' hS=>?_⟩) hbW ?_
  ·go_simp
  refine wpAnyH_take (i:=18) (v:=.slice none 0 0) rfl (by kernel_rfl) (by kernel_rfl) (by kernel_rfl) (fun _ _ _ h=>h) (Or.inl ⟨by kernel_rfl,fun w' hS=>?_⟩) hbW ?_
  ·go_simp
  refine wpAnyH_take (i:=19) (v:=.int .i64 0) rfl (by kernel_rfl) (by kernel_rfl) (by kernel_rfl) (fun _ _ _ h=>h) (Or.inl ⟨by kernel_rfl,fun w' hS=>?_⟩) hbW ?_
  ·go_simp
  refine wpAnyH_take (i:=20) (v:=.agg #[.int .i64 (z),.int .i64 (a)]) rfl (by kernel_rfl) (by kernel_rfl) (by kernel_rfl) (fun _ _ _ h=>h) (Or.inl ⟨by kernel_rfl,fun w' hS=>?_⟩) hbW ?_
  ·go_simp
  refine wpAnyH_take (i:=22) (v:=.slice none 0 0) rfl (by kernel_rfl) (by kernel_rfl) (by kernel_rfl) (fun _ _ _ h=>h) (Or.inl ⟨by kernel_rfl,fun w' hS=>?_⟩) hbW ?_
  ·go_simp
  refine wpAnyH_take (i:=23) (v:=.int .i64 0) rfl (by kernel_rfl) (by kernel_rfl) (by kernel_rfl) (fun _ _ _ h=>h) (Or.inl ⟨by kernel_rfl,fun w' hS=>?_⟩) hbW ?_
  ·go_simp
  refine wpAnyH_ready (rs:=[24]) (by kernel_rfl) (by simp) ?_
  refine AllReadyH.cons rfl (fun K hK=>?_) AllReadyH.nil
  go_simp
  have hS3':=(hbW.setCell (p:=⟨w.heap.size,0,none⟩) (U _) (.int .i64 (z))).setCell (p:=⟨w.heap.size,1,none⟩) (U _) (.int .i64 (a))
  refine hK.out _ _ hS3' (fun hS3=>?_)
  clear hK K
  refine wpAnyH_done (by kernel_rfl) ?_ _
  have hM3:=Br.gZ (e':=z) (a':=a) hM
  have hM3l:=Nat.le_refl w.heap.size
  obtain⟨w3,hw3⟩:∃w3,w3=(w2.setCell ⟨w.heap.size,0,none⟩ (.int .i64 (z))).setCell ⟨w.heap.size,1,none⟩ (.int .i64 (a)):=⟨_,rfl⟩
  obtain⟨M,hMM⟩:∃M,M=w.heap.size:=⟨_,rfl⟩
  rw[<- hw3]at hM3 hS3 |-
  rw[<- hMM]at hM3 |-
  replace hM3l:w.heap.size<=M:=by omega
  clear hw3 hMM hbc hS1 hb1 hbW hM g0 g1 gf hS3'
  have hr3:=HR0.o.ar hS3
  have HR3:=I hr3
  have hm3:Hid (Mv g w w3):=Mv.ae hS3
  obtain⟨c0,c1,c10,c11, -⟩:=hr3.rd
  have f11:=hr3.fr 11
  obtain⟨g0,g1,gf⟩:=Br.bh hM3
  have hMg:¬M=g:=by omega
  have hgM:¬g=M:=by omega
  clear hr3 hS3 hM3 hM3l HD HCl HS HR0 c0 c1
  have HG:Hid (∀W,Calls prog 49 #[.int .i64 z,.int .i64 (max a (s.pos:Int))] W fun r w'=>r=aw z (max a (s.pos:Int))/\W=w'):=fun W=>aO z _ W
  simp only[aw]at HG
  go_upto_region 3 with fail
  go_still_tail 9,(by kernel_rfl)
  go_wp2_with fail
  refine(HG.o _).mono ?_
  rintro e w4 ⟨rfl,rfl⟩
  go_wp2
  exact⟨rfl,.inr ⟨z,a,HRR.o,rfl,hm3.o.trans ⟨rfl,rfl,rfl,U _,fun _ _ _=>rfl⟩⟩⟩
theorem yV(h:RB w g v l d s nv av){f:PS}{k:Nat}(hR:Br.dj d s.aD l (s.next:Int)=.ok (f,k)):Calls prog 133 #[.pointer (some ⟨g,0,none⟩)] w fun e w'=>Ii (Br.dj d s.aD l (s.next:Int)) g v l d s nv av w e w':=by
 have HR0:=I h
 obtain⟨p,hp⟩:∃p,p=s.next:=⟨_,rfl⟩
 obtain⟨fo,hfo⟩:∃fo,fo=s.aD:=⟨_,rfl⟩
 have HX:Hid (∀W,RB W g v l d s nv av->∀Wc,Below W.heap.size W Wc->Calls prog 140 #[.int .i64 d,v,.int .i64 (p:Nat),.bool fo] Wc fun e w2=>∃so ln sc L,e=.returned (.tuple #[.slice so ln sc,.int .i64 (k:Nat),.agg #[.int .i64 (0),.int .i64 (0)]])/\OR w2 Wc.heap.size (.slice so ln sc) L/\bg f L/\L.length<=400/\k<=l.length/\Below W.heap.size W w2/\Below Wc.heap.size Wc w2):=by
  intro W hW Wc hWc
  have hWk:=hW.ar hWc
  have:=Br.sT d (p:Int) v l fo Wc hWk.pat hWk.Bl (Nat.lt_trans hWk.low hWk.lt)
  rw[hp,hfo,hR]at this
  rw[hp,hfo]
  refine this.mono ?_
  rintro e w2 (⟨f',k',sv,L,hR',he,ho,hs,hl,hkl,hb⟩|⟨z',c',hR',hz,he,hb⟩)
  ·cases hR'
   obtain⟨so,sc,hsv⟩:=OR.shape ho
   rw[hsv]at he ho
   exact⟨so,L.length,sc,L,he,ho,hs,hl,hkl,hWc.trans (hb.mono hWc.size),hb⟩
  ·cases hR'
 have HRR:=I hR
 obtain⟨ao,c,hv⟩:=h.pat.shape
 obtain⟨n,hnn⟩:∃n,n=l.length:=⟨_,rfl⟩
 rw[<- hnn]at hv
 have HV:=I hv
 have hgw:=h.lt
 have HD:=I (HX.o w h)
 have HP:=I hp
 have HFO:=I hfo
 have HNN:=I hnn
 rw[hv]at HD
 have HS:Hid (Below w.heap.size w w.drew):=⟨rfl,rfl,rfl,U _,fun _ _=>rfl⟩
 have HCl:Hid (∀w',Below w.heap.size w w'->w'.cell? ⟨g,0,none⟩=some (.int .i64 d)/\w'.cell? ⟨g,1,none⟩=some (.slice ao n c)/\w'.cell? ⟨g,11,none⟩=some (.int .i64 (p:Nat))/\w'.cell? ⟨g,12,none⟩=some (.bool fo)):=fun w' hS=>by
  obtain⟨y0,y1, -,y2,y3, -⟩:=(HR0.o.ar hS).rd
  rw[HV.o]at y1
  rw[<- HP.o]at y2
  rw[<- HFO.o]at y3
  exact⟨y0,y1,y2,y3⟩
 clear h hv hR hnn hp hfo HX
 go_enter func133,ntmps133
 go_upto_region 1 with fail
 refine wp_region_held (S:=fun w'=>Below w.heap.size w w') (by kernel_rfl) ?_
 change wpAnyH _ _ _ _ _ _ _ _ (World.drew _)
 refine wpAnyH_take (i:=0) (v:=.pointer (some ⟨g,0,none⟩)) rfl (by kernel_rfl) (by kernel_rfl) (by kernel_rfl) (fun _ _ _ h=>h) (Or.inl ⟨by kernel_rfl,fun w' hS=>?_⟩) HS.o ?_
 ·go_simp
 refine wpAnyH_take (i:=1) (v:=.pointer (some ⟨g,0,none⟩)) rfl (by kernel_rfl) (by kernel_rfl) (by kernel_rfl) (fun _ _ _ h=>h) (Or.inl ⟨by kernel_rfl,fun w' hS=>?_⟩) HS.o ?_
 ·go_simp
 refine wpAnyH_take (i:=2) (v:=.pointer (some ⟨g,0,none⟩)) rfl (by kernel_rfl) (by kernel_rfl) (by kernel_rfl) (fun _ _ _ h=>h) (Or.inl ⟨by kernel_rfl,fun w' hS=>?_⟩) HS.o ?_
 ·go_simp
 refine wpAnyH_take (i:=3) (v:=.int .i64 d) rfl (by kernel_rfl) (by kernel_rfl) (by kernel_rfl) (fun _ _ _ h=>h) (Or.inl ⟨by kernel_rfl,fun w' hS=>?_⟩) HS.o ?_
 ·(obtain⟨y0,y1,y2,y3⟩:=HCl.o w' hS;go_simp)
 refine wpAnyH_take (i:=4) (v:=.pointer (some ⟨g,0,none⟩)) rfl (by kernel_rfl) (by kernel_rfl) (by kernel_rfl) (fun _ _ _ h=>h) (Or.inl ⟨by kernel_rfl,fun w' hS=>?_⟩) HS.o ?_
 ·go_simp
 refine wpAnyH_take (i:=5) (v:=.pointer (some ⟨g,0,none⟩)) rfl (by kernel_rfl) (by kernel_rfl) (by kernel_rfl) (fun _ _ _ h=>h) (Or.inl ⟨by kernel_rfl,fun w' hS=>?_⟩) HS.o ?_
 ·go_simp
 refine wpAnyH_take (i:=6) (v:=.pointer (some ⟨g,1,none⟩)) rfl (by kernel_rfl) (by kernel_rfl) (by kernel_rfl) (fun _ _ _ h=>h) (Or.inl ⟨by kernel_rfl,fun w' hS=>?_⟩) HS.o ?_
 ·go_simp
 refine wpAnyH_take (i:=7) (v:=.slice ao n c) rfl (by kernel_rfl) (by kernel_rfl) (by kernel_rfl) (fun _ _ _ h=>h) (Or.inl ⟨by kernel_rfl,fun w' hS=>?_⟩) HS.o ?_
 ·(obtain⟨y0,y1,y2,y3⟩:=HCl.o w' hS;go_simp)
 refine wpAnyH_take (i:=8) (v:=.pointer (some ⟨g,0,none⟩)) rfl (by kernel_rfl) (by kernel_rfl) (by kernel_rfl) (fun _ _ _ h=>h) (Or.inl ⟨by kernel_rfl,fun w' hS=>?_⟩) HS.o ?_
 ·go_simp
 refine wpAnyH_take (i:=9) (v:=.pointer (some ⟨g,0,none⟩)) rfl (by kernel_rfl) (by kernel_rfl) (by kernel_rfl) (fun _ _ _ h=>h) (Or.inl ⟨by kernel_rfl,fun w' hS=>?_⟩) HS.o ?_
 ·go_simp
 refine wpAnyH_take (i:=10) (v:=.pointer (some ⟨g,11,none⟩)) rfl (by kernel_rfl) (by kernel_rfl) (by kernel_rfl) (fun _ _ _ h=>h) (Or.inl ⟨by kernel_rfl,fun w' hS=>?_⟩) HS.o ?_
 ·go_simp
 refine wpAnyH_take (i:=11) (v:=.int .i64 (p:Nat)) rfl (by kernel_rfl) (by kernel_rfl) (by kernel_rfl) (fun _ _ _ h=>h) (Or.inl ⟨by kernel_rfl,fun w' hS=>?_⟩) HS.o ?_
 ·(obtain⟨y0,y1,y2,y3⟩:=HCl.o w' hS;go_simp)
 refine wpAnyH_take (i:=12) (v:=.pointer (some ⟨g,0,none⟩)) rfl (by kernel_rfl) (by kernel_rfl) (by kernel_rfl) (fun _ _ _ h=>h) (Or.inl ⟨by kernel_rfl,fun w' hS=>?_⟩) HS.o ?_
 ·go_simp
 refine wpAnyH_take (i:=13) (v:=.pointer (some ⟨g,0,none⟩)) rfl (by kernel_rfl) (by kernel_rfl) (by kernel_rfl) (fun _ _ _ h=>h) (Or.inl ⟨by kernel_rfl,fun w' hS=>?_⟩) HS.o ?_
 ·go_simp
 refine wpAnyH_take (i:=14) (v:=.pointer (some ⟨g,12,none⟩)) rfl (by kernel_rfl) (by kernel_rfl) (by kernel_rfl) (fun _ _ _ h=>h) (Or.inl ⟨by kernel_rfl,fun w' hS=>?_⟩) HS.o ?_
 ·go_simp
 refine wpAnyH_take (i:=15) (v:=.bool fo) rfl (by kernel_rfl) (by kernel_rfl) (by kernel_rfl) (fun _ _ _ h=>h) (Or.inl ⟨by kernel_rfl,fun w' hS=>?_⟩) HS.o ?_
 ·(obtain⟨y0,y1,y2,y3⟩:=HCl.o w' hS;go_simp)
 refine wpAnyH_ready (rs:=[16,21]) (by kernel_rfl) (by simp) ?_
 refine AllReadyH.cons rfl (fun K hK=>?_) (AllReadyH.cons rfl (fun K hK=>?_) AllReadyH.nil)
 ·go_simp
  refine(HD.o _ HS.o).mono ?_
  rintro e w2 ⟨so,ln,sc,L,rfl,ho,hs,hl,hkl,hbW,hbc⟩
  have HOO:=I ho
  have HSS:=I hs
  have HLL:=I hl
  have HKL:=I hkl
  clear ho hs hl hkl
  refine hK.out _ _ hbW (fun _=>?_)
  clear hK K
  refine wpAnyH_take (i:=17) (v:=.tuple #[.slice so ln sc,.int .i64 (k:Nat),.agg #[.int .i64 (0),.int .i64 (0)]]) rfl (by kernel_rfl) (by kernel_rfl) (by kernel_rfl) (fun _ _ _ h=>h) (Or.inl ⟨by kernel_rfl,fun w' hS=>?_⟩) hbW ?_
  ·go_simp
  refine wpAnyH_take (i:=18) (v:=.slice so ln sc) rfl (by kernel_rfl) (by kernel_rfl) (by kernel_rfl) (fun _ _ _ h=>h) (Or.inl ⟨by kernel_rfl,fun w' hS=>?_⟩) hbW ?_
  ·go_simp
  refine wpAnyH_take (i:=19) (v:=.int .i64 (k:Nat)) rfl (by kernel_rfl) (by kernel_rfl) (by kernel_rfl) (fun _ _ _ h=>h) (Or.inl ⟨by kernel_rfl,fun w' hS=>?_⟩) hbW ?_
  ·go_simp
  refine wpAnyH_take (i:=20) (v:=.agg #[.int .i64 (0),.int .i64 (0)]) rfl (by kernel_rfl) (by kernel_rfl) (by kernel_rfl) (fun _ _ _ h=>h) (Or.inl ⟨by kernel_rfl,fun w' hS=>?_⟩) hbW ?_
  ·go_simp
  refine wpAnyH_ready (rs:=[21]) (by kernel_rfl) (by simp) ?_
  refine AllReadyH.cons rfl (fun K hK=>?_) AllReadyH.nil
  go_simp
  refine hK.out _ _ (hbW.alloc hbW.size _) (fun hS2=>?_)
  clear hK K
  refine wpAnyH_take (i:=22) (v:=.slice so ln sc) rfl (by kernel_rfl) (by kernel_rfl) (by kernel_rfl) (fun _ _ _ h=>h) (Or.inl ⟨by kernel_rfl,fun w' hS=>?_⟩) hS2 ?_
  ·go_simp
  refine wpAnyH_take (i:=23) (v:=.int .i64 (k:Nat)) rfl (by kernel_rfl) (by kernel_rfl) (by kernel_rfl) (fun _ _ _ h=>h) (Or.inl ⟨by kernel_rfl,fun w' hS=>?_⟩) hS2 ?_
  ·go_simp
  refine wpAnyH_ready (rs:=[24]) (by kernel_rfl) (by simp) ?_
  refine AllReadyH.cons rfl (fun K hK=>?_) AllReadyH.nil
  go_simp
  refine hK.out _ _ (hbW.alloc hbW.size _) (fun hS3=>?_)
  clear hK K
  refine wpAnyH_done (by kernel_rfl) ?_ _
  have hM3:=TK.aj w2 (bm 0 0)
  have hM3l:=hbW.size
  obtain⟨w3,hw3⟩:∃w3,w3=w2.alloc (bm 0 0):=⟨_,rfl⟩
  obtain⟨M,hMM⟩:∃M,M=w2.heap.size:=⟨_,rfl⟩
  rw[<- hw3]at hM3
  have HO3:Hid (OR w3 w.heap.size (.slice so ln sc) L):=by
   show OR _ _ _ _
   rw[hw3]
   exact OR.below (HOO.o.low (U _)) ((J _ w2).alloc (U _) _)
  clear HOO
  simp only[bm]at hw3
  rw[<- hw3]at hS3 |-
  rw[<- hMM]at hM3 hM3l |-
  clear hw3 hMM hbc hS2 hbW
  have hr3:=HR0.o.ar hS3
  have HR3:=I hr3
  have hm3:Hid (Mv g w w3):=Mv.ae hS3
  obtain⟨c0,c1,c10,c11, -⟩:=hr3.rd
  have f11:=hr3.fr 11
  obtain⟨g0,g1,gf⟩:=Br.bh hM3
  have hMg:¬M=g:=by omega
  have hgM:¬g=M:=by omega
  clear hr3 hS3 hM3 hM3l HD HCl HS HR0 c0 c1
  go_wp2
  go_ret
  refine .inl ⟨f,k,_,L,HRR.o,rfl,?_,HSS.o,HLL.o,HKL.o,?_,?_⟩
  ·exact OR.mv HO3.o ((Mv.refl g w3).setCell 11 _) hgw
  ·exact HR3.o.set (s':={ s with next:=k }) 11 (.int .i64 (k:Nat)) rfl rfl rfl
  ·exact hm3.o.setCell 11 _
 ·go_simp
  have hb1:Below w.heap.size w (w.alloc (bm 0 0)).drew:=((J _ w).alloc (U _) _).drew
  refine hK.out _ _ hb1 (fun hS1=>?_)
  clear hK K
  refine wpAnyH_ready (rs:=[16]) (by kernel_rfl) (by simp) ?_
  refine AllReadyH.cons rfl (fun K hK=>?_) AllReadyH.nil
  go_simp
  refine(HD.o _ hS1).mono ?_
  rintro e w2 ⟨so,ln,sc,L,rfl,ho,hs,hl,hkl,hbW,hbc⟩
  have HOO:=I ho
  have HSS:=I hs
  have HLL:=I hl
  have HKL:=I hkl
  clear ho hs hl hkl
  have hM:w2.heap[w.heap.size]? =some (bm 0 0):=by rw[hbc.block _ (by show _<(w.alloc _).heap.size;simp)];exact TK.aj _ _
  obtain⟨g0,g1,gf⟩:=Br.bh hM
  refine hK.out _ _ hbW (fun _=>?_)
  clear hK K
  refine wpAnyH_take (i:=17) (v:=.tuple #[.slice so ln sc,.int .i64 (k:Nat),.agg #[.int .i64 (0),.int .i64 (0)]]) rfl (by kernel_rfl) (by kernel_rfl) (by kernel_rfl) (fun _ _ _ h=>h) (Or.inl ⟨by kernel_rfl,fun w' hS=>?_⟩) hbW ?_
  ·go_simp
  refine wpAnyH_take (i:=18) (v:=.slice so ln sc) rfl (by kernel_rfl) (by kernel_rfl) (by kernel_rfl) (fun _ _ _ h=>h) (Or.inl ⟨by kernel_rfl,fun w' hS=>?_⟩) hbW ?_
  ·go_simp
  refine wpAnyH_take (i:=19) (v:=.int .i64 (k:Nat)) rfl (by kernel_rfl) (by kernel_rfl) (by kernel_rfl) (fun _ _ _ h=>h) (Or.inl ⟨by kernel_rfl,fun w' hS=>?_⟩) hbW ?_
  ·go_simp
  refine wpAnyH_take (i:=20) (v:=.agg #[.int .i64 (0),.int .i64 (0)]) rfl (by kernel_rfl) (by kernel_rfl) (by kernel_rfl) (fun _ _ _ h=>h) (Or.inl ⟨by kernel_rfl,fun w' hS=>?_⟩) hbW ?_
  ·go_simp
  refine wpAnyH_take (i:=22) (v:=.slice so ln sc) rfl (by kernel_rfl) (by kernel_rfl) (by kernel_rfl) (fun _ _ _ h=>h) (Or.inl ⟨by kernel_rfl,fun w' hS=>?_⟩) hbW ?_
  ·go_simp
  refine wpAnyH_take (i:=23) (v:=.int .i64 (k:Nat)) rfl (by kernel_rfl) (by kernel_rfl) (by kernel_rfl) (fun _ _ _ h=>h) (Or.inl ⟨by kernel_rfl,fun w' hS=>?_⟩) hbW ?_
  ·go_simp
  refine wpAnyH_ready (rs:=[24]) (by kernel_rfl) (by simp) ?_
  refine AllReadyH.cons rfl (fun K hK=>?_) AllReadyH.nil
  go_simp
  have hS3':=(hbW.setCell (p:=⟨w.heap.size,0,none⟩) (U _) (.int .i64 (0))).setCell (p:=⟨w.heap.size,1,none⟩) (U _) (.int .i64 (0))
  refine hK.out _ _ hS3' (fun hS3=>?_)
  clear hK K
  refine wpAnyH_done (by kernel_rfl) ?_ _
  have hM3:=Br.gZ (e':=0) (a':=0) hM
  have hM3l:=Nat.le_refl w.heap.size
  obtain⟨w3,hw3⟩:∃w3,w3=(w2.setCell ⟨w.heap.size,0,none⟩ (.int .i64 (0))).setCell ⟨w.heap.size,1,none⟩ (.int .i64 (0)):=⟨_,rfl⟩
  obtain⟨M,hMM⟩:∃M,M=w.heap.size:=⟨_,rfl⟩
  have HO3:Hid (OR w3 w.heap.size (.slice so ln sc) L):=by
   show OR _ _ _ _
   rw[hw3]
   exact(OR.mv HOO.o (((Mv.refl w.heap.size w2).setCell 0 _).setCell 1 _) (by show _<(w.alloc _).heap.size;simp)).low (by show _<=(w.alloc _).heap.size;simp)
  clear HOO
  rw[<- hw3]at hM3 hS3 |-
  rw[<- hMM]at hM3 |-
  replace hM3l:w.heap.size<=M:=by omega
  clear hw3 hMM hbc hS1 hb1 hbW hM g0 g1 gf hS3'
  have hr3:=HR0.o.ar hS3
  have HR3:=I hr3
  have hm3:Hid (Mv g w w3):=Mv.ae hS3
  obtain⟨c0,c1,c10,c11, -⟩:=hr3.rd
  have f11:=hr3.fr 11
  obtain⟨g0,g1,gf⟩:=Br.bh hM3
  have hMg:¬M=g:=by omega
  have hgM:¬g=M:=by omega
  clear hr3 hS3 hM3 hM3l HD HCl HS HR0 c0 c1
  go_wp2
  go_ret
  refine .inl ⟨f,k,_,L,HRR.o,rfl,?_,HSS.o,HLL.o,HKL.o,?_,?_⟩
  ·exact OR.mv HO3.o ((Mv.refl g w3).setCell 11 _) hgw
  ·exact HR3.o.set (s':={ s with next:=k }) 11 (.int .i64 (k:Nat)) rfl rfl rfl
  ·exact hm3.o.setCell 11 _
theorem ym(h:RB w g v l d s nv av):Calls prog 133 #[.pointer (some ⟨g,0,none⟩)] w fun e w'=>Ii (Br.dj d s.aD l (s.next:Int)) g v l d s nv av w e w':=by
 cases hR:Br.dj d s.aD l (s.next:Int)with
 |error x=>rw[<- hR];exact zv h (z:=x.1) (a:=x.2) hR
 |ok x=>rw[<- hR];exact yV h (f:=x.1) (k:=x.2) hR
end Go.Proofs.YtklbbbldalmnbaaGreatDoor.Pa
