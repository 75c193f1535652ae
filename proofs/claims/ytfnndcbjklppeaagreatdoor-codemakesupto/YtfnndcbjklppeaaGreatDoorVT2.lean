import Derived.Test.YtfnndcbjklppeaaGreatDoorUB2
set_option maxHeartbeats 4000000
set_option maxRecDepth 100000
set_option linter.unusedVariables false
open Go.Proofs.Tryz
namespace Go.Proofs.YtfnndcbjklppeaaGreatDoor
open Go.RowKit
theorem tokenAt_2(x:Addr)(c:Nat)(w:World)(h:ReadsI w x abL):Calls prog 80 #[.int .i64 1,.slice (some x) 3 c,.int .i64 2] w fun e w'=>e=.returned (.tuple #[tokV (pointT 98),.int .i64 3,.int .i64 0])∧Below w.heap.size w w':=by
 have hb1:Below w.heap.size w (((w.alloc (lsO x c)).alloc (inO 2)).alloc (tokO {})):=((allocB _ _).alloc (by simp) _).alloc (by simp;omega) _
 obtain⟨w1,hw1⟩:=named (((w.alloc (lsO x c)).alloc (inO 2)).alloc (tokO {}))
 have hx1:w1.heap[w.heap.size]? =some (lsO x c):=by rw[hw1];exact at_old (at_old (at_new _ _))
 have hx2:w1.heap[w.heap.size+1]? =some (inO 2):=by rw[hw1];exact at_old (at_new' _ _ (by simp))
 have hx3:w1.heap[w.heap.size+1+1]? =some (tokO {}):=by rw[hw1];exact at_new' _ _ (by simp)
 rw[← hw1]at hb1
 have HB1:=hide hb1
 have HA1:=hide hx1
 have HI1:=hide hx2
 have HT1:=hide hx3
 have HR1:=hide (h.below hb1)
 simp only[lsO,inO,tokO]at hw1
 clear hb1 hx1 hx2 hx3 h
 go_enter func80,ntmps80
 go_upto_region 1 with fail
 rw[← hw1]
 clear hw1
 have a0:w1.cell? ⟨w.heap.size,0,none⟩=some (.slice (some x) 3 c):=by simp[World.cell?,HA1.out]
 have i0:w1.cell? ⟨w.heap.size+1,0,none⟩=some (.int .i64 2):=by simp[World.cell?,HI1.out]
 have HC:Hid (Calls prog 121 #[.string ⟨#[46]⟩,.pointer (some ⟨w.heap.size,0,none⟩),.pointer (some ⟨w.heap.size+1,0,none⟩)] w1 fun e w'=>e=.returned (.bool false)∧Below w1.heap.size w1 w'):=isT_any x c 2 _ _ 46 w1 HA1.out HI1.out (by decide) HR1.out
 go_wp2_with fail
 refine HC.out.mono ?_
 rintro e w2 ⟨rfl,hb⟩
 have HB2:=hide (HB1.out.andT hb)
 have HA2:=hide (below_at hb HA1.out)
 have HI2:=hide (below_at hb HI1.out)
 have HT2:=hide (below_at hb HT1.out)
 have HR2:=hide (HR1.out.below hb)
 clear hb HC a0 i0 HB1 HA1 HI1 HT1 HR1
 have a0:w2.cell? ⟨w.heap.size,0,none⟩=some (.slice (some x) 3 c):=by simp[World.cell?,HA2.out]
 have i0:w2.cell? ⟨w.heap.size+1,0,none⟩=some (.int .i64 2):=by simp[World.cell?,HI2.out]
 have HC:Hid (Calls prog 121 #[.string ⟨#[94]⟩,.pointer (some ⟨w.heap.size,0,none⟩),.pointer (some ⟨w.heap.size+1,0,none⟩)] w2 fun e w'=>e=.returned (.bool false)∧Below w2.heap.size w2 w'):=isT_any x c 2 _ _ 94 w2 HA2.out HI2.out (by decide) HR2.out
 go_wp2_with fail
 refine HC.out.mono ?_
 rintro e w3 ⟨rfl,hb⟩
 have HB3:=hide (HB2.out.andT hb)
 have HA3:=hide (below_at hb HA2.out)
 have HI3:=hide (below_at hb HI2.out)
 have HT3:=hide (below_at hb HT2.out)
 have HR3:=hide (HR2.out.below hb)
 clear hb HC a0 i0 HB2 HA2 HI2 HT2 HR2
 have a0:w3.cell? ⟨w.heap.size,0,none⟩=some (.slice (some x) 3 c):=by simp[World.cell?,HA3.out]
 have i0:w3.cell? ⟨w.heap.size+1,0,none⟩=some (.int .i64 2):=by simp[World.cell?,HI3.out]
 have HC:Hid (Calls prog 121 #[.string ⟨#[36]⟩,.pointer (some ⟨w.heap.size,0,none⟩),.pointer (some ⟨w.heap.size+1,0,none⟩)] w3 fun e w'=>e=.returned (.bool false)∧Below w3.heap.size w3 w'):=isT_any x c 2 _ _ 36 w3 HA3.out HI3.out (by decide) HR3.out
 go_wp2_with fail
 refine HC.out.mono ?_
 rintro e w4 ⟨rfl,hb⟩
 have HB4:=hide (HB3.out.andT hb)
 have HA4:=hide (below_at hb HA3.out)
 have HI4:=hide (below_at hb HI3.out)
 have HT4:=hide (below_at hb HT3.out)
 have HR4:=hide (HR3.out.below hb)
 clear hb HC a0 i0 HB3 HA3 HI3 HT3 HR3
 have a0:w4.cell? ⟨w.heap.size,0,none⟩=some (.slice (some x) 3 c):=by simp[World.cell?,HA4.out]
 have i0:w4.cell? ⟨w.heap.size+1,0,none⟩=some (.int .i64 2):=by simp[World.cell?,HI4.out]
 have HC:Hid (Calls prog 121 #[.string ⟨#[91]⟩,.pointer (some ⟨w.heap.size,0,none⟩),.pointer (some ⟨w.heap.size+1,0,none⟩)] w4 fun e w'=>e=.returned (.bool false)∧Below w4.heap.size w4 w'):=isT_any x c 2 _ _ 91 w4 HA4.out HI4.out (by decide) HR4.out
 go_wp2_with fail
 refine HC.out.mono ?_
 rintro e w5 ⟨rfl,hb⟩
 have HB5:=hide (HB4.out.andT hb)
 have HA5:=hide (below_at hb HA4.out)
 have HI5:=hide (below_at hb HI4.out)
 have HT5:=hide (below_at hb HT4.out)
 have HR5:=hide (HR4.out.below hb)
 clear hb HC a0 i0 HB4 HA4 HI4 HT4 HR4
 have a0:w5.cell? ⟨w.heap.size,0,none⟩=some (.slice (some x) 3 c):=by simp[World.cell?,HA5.out]
 have i0:w5.cell? ⟨w.heap.size+1,0,none⟩=some (.int .i64 2):=by simp[World.cell?,HI5.out]
 have HC:Hid (Calls prog 121 #[.string ⟨#[42]⟩,.pointer (some ⟨w.heap.size,0,none⟩),.pointer (some ⟨w.heap.size+1,0,none⟩)] w5 fun e w'=>e=.returned (.bool false)∧Below w5.heap.size w5 w'):=isT_any x c 2 _ _ 42 w5 HA5.out HI5.out (by decide) HR5.out
 go_wp2_with fail
 refine HC.out.mono ?_
 rintro e w6 ⟨rfl,hb⟩
 have HB6:=hide (HB5.out.andT hb)
 have HA6:=hide (below_at hb HA5.out)
 have HI6:=hide (below_at hb HI5.out)
 have HT6:=hide (below_at hb HT5.out)
 have HR6:=hide (HR5.out.below hb)
 clear hb HC a0 i0 HB5 HA5 HI5 HT5 HR5
 have a0:w6.cell? ⟨w.heap.size,0,none⟩=some (.slice (some x) 3 c):=by simp[World.cell?,HA6.out]
 have i0:w6.cell? ⟨w.heap.size+1,0,none⟩=some (.int .i64 2):=by simp[World.cell?,HI6.out]
 have HC:Hid (Calls prog 121 #[.string ⟨#[43]⟩,.pointer (some ⟨w.heap.size,0,none⟩),.pointer (some ⟨w.heap.size+1,0,none⟩)] w6 fun e w'=>e=.returned (.bool false)∧Below w6.heap.size w6 w'):=isT_any x c 2 _ _ 43 w6 HA6.out HI6.out (by decide) HR6.out
 go_wp2_with fail
 refine HC.out.mono ?_
 rintro e w7 ⟨rfl,hb⟩
 have HB7:=hide (HB6.out.andT hb)
 have HA7:=hide (below_at hb HA6.out)
 have HI7:=hide (below_at hb HI6.out)
 have HT7:=hide (below_at hb HT6.out)
 have HR7:=hide (HR6.out.below hb)
 clear hb HC a0 i0 HB6 HA6 HI6 HT6 HR6
 have a0:w7.cell? ⟨w.heap.size,0,none⟩=some (.slice (some x) 3 c):=by simp[World.cell?,HA7.out]
 have i0:w7.cell? ⟨w.heap.size+1,0,none⟩=some (.int .i64 2):=by simp[World.cell?,HI7.out]
 have HC:Hid (Calls prog 121 #[.string ⟨#[63]⟩,.pointer (some ⟨w.heap.size,0,none⟩),.pointer (some ⟨w.heap.size+1,0,none⟩)] w7 fun e w'=>e=.returned (.bool false)∧Below w7.heap.size w7 w'):=isT_any x c 2 _ _ 63 w7 HA7.out HI7.out (by decide) HR7.out
 go_wp2_with fail
 refine HC.out.mono ?_
 rintro e w8 ⟨rfl,hb⟩
 have HB8:=hide (HB7.out.andT hb)
 have HA8:=hide (below_at hb HA7.out)
 have HI8:=hide (below_at hb HI7.out)
 have HT8:=hide (below_at hb HT7.out)
 have HR8:=hide (HR7.out.below hb)
 clear hb HC a0 i0 HB7 HA7 HI7 HT7 HR7
 have a0:w8.cell? ⟨w.heap.size,0,none⟩=some (.slice (some x) 3 c):=by simp[World.cell?,HA8.out]
 have i0:w8.cell? ⟨w.heap.size+1,0,none⟩=some (.int .i64 2):=by simp[World.cell?,HI8.out]
 have HC:Hid (Calls prog 121 #[.string ⟨#[92]⟩,.pointer (some ⟨w.heap.size,0,none⟩),.pointer (some ⟨w.heap.size+1,0,none⟩)] w8 fun e w'=>e=.returned (.bool false)∧Below w8.heap.size w8 w'):=isT_any x c 2 _ _ 92 w8 HA8.out HI8.out (by decide) HR8.out
 go_wp2_with fail
 refine HC.out.mono ?_
 rintro e w9 ⟨rfl,hb⟩
 have HB9:=hide (HB8.out.andT hb)
 have HA9:=hide (below_at hb HA8.out)
 have HI9:=hide (below_at hb HI8.out)
 have HT9:=hide (below_at hb HT8.out)
 have HR9:=hide (HR8.out.below hb)
 clear hb HC a0 i0 HB8 HA8 HI8 HT8 HR8
 have a0:w9.cell? ⟨w.heap.size,0,none⟩=some (.slice (some x) 3 c):=by simp[World.cell?,HA9.out]
 have i0:w9.cell? ⟨w.heap.size+1,0,none⟩=some (.int .i64 2):=by simp[World.cell?,HI9.out]
 have HC:Hid (Calls prog 121 #[.string ⟨#[40]⟩,.pointer (some ⟨w.heap.size,0,none⟩),.pointer (some ⟨w.heap.size+1,0,none⟩)] w9 fun e w'=>e=.returned (.bool false)∧Below w9.heap.size w9 w'):=isT_any x c 2 _ _ 40 w9 HA9.out HI9.out (by decide) HR9.out
 go_wp2_with fail
 refine HC.out.mono ?_
 rintro e w10 ⟨rfl,hb⟩
 have HB10:=hide (HB9.out.andT hb)
 have HA10:=hide (below_at hb HA9.out)
 have HI10:=hide (below_at hb HI9.out)
 have HT10:=hide (below_at hb HT9.out)
 have HR10:=hide (HR9.out.below hb)
 clear hb HC a0 i0 HB9 HA9 HI9 HT9 HR9
 have a0:w10.cell? ⟨w.heap.size,0,none⟩=some (.slice (some x) 3 c):=by simp[World.cell?,HA10.out]
 have i0:w10.cell? ⟨w.heap.size+1,0,none⟩=some (.int .i64 2):=by simp[World.cell?,HI10.out]
 have HC:Hid (Calls prog 121 #[.string ⟨#[41]⟩,.pointer (some ⟨w.heap.size,0,none⟩),.pointer (some ⟨w.heap.size+1,0,none⟩)] w10 fun e w'=>e=.returned (.bool false)∧Below w10.heap.size w10 w'):=isT_any x c 2 _ _ 41 w10 HA10.out HI10.out (by decide) HR10.out
 go_wp2_with fail
 refine HC.out.mono ?_
 rintro e w11 ⟨rfl,hb⟩
 have HB11:=hide (HB10.out.andT hb)
 have HA11:=hide (below_at hb HA10.out)
 have HI11:=hide (below_at hb HI10.out)
 have HT11:=hide (below_at hb HT10.out)
 have HR11:=hide (HR10.out.below hb)
 clear hb HC a0 i0 HB10 HA10 HI10 HT10 HR10
 have a0:w11.cell? ⟨w.heap.size,0,none⟩=some (.slice (some x) 3 c):=by simp[World.cell?,HA11.out]
 have i0:w11.cell? ⟨w.heap.size+1,0,none⟩=some (.int .i64 2):=by simp[World.cell?,HI11.out]
 have HC:Hid (Calls prog 121 #[.string ⟨#[124]⟩,.pointer (some ⟨w.heap.size,0,none⟩),.pointer (some ⟨w.heap.size+1,0,none⟩)] w11 fun e w'=>e=.returned (.bool false)∧Below w11.heap.size w11 w'):=isT_any x c 2 _ _ 124 w11 HA11.out HI11.out (by decide) HR11.out
 go_wp2_with fail
 refine HC.out.mono ?_
 rintro e w12 ⟨rfl,hb⟩
 have HB12:=hide (HB11.out.andT hb)
 have HA12:=hide (below_at hb HA11.out)
 have HI12:=hide (below_at hb HI11.out)
 have HT12:=hide (below_at hb HT11.out)
 have HR12:=hide (HR11.out.below hb)
 clear hb HC a0 i0 HB11 HA11 HI11 HT11 HR11
 have a0:w12.cell? ⟨w.heap.size,0,none⟩=some (.slice (some x) 3 c):=by simp[World.cell?,HA12.out]
 have i0:w12.cell? ⟨w.heap.size+1,0,none⟩=some (.int .i64 2):=by simp[World.cell?,HI12.out]
 have HC:Hid (Calls prog 121 #[.string ⟨#[123]⟩,.pointer (some ⟨w.heap.size,0,none⟩),.pointer (some ⟨w.heap.size+1,0,none⟩)] w12 fun e w'=>e=.returned (.bool false)∧Below w12.heap.size w12 w'):=isT_any x c 2 _ _ 123 w12 HA12.out HI12.out (by decide) HR12.out
 go_wp2_with fail
 refine HC.out.mono ?_
 rintro e w13 ⟨rfl,hb⟩
 have HB13:=hide (HB12.out.andT hb)
 have HA13:=hide (below_at hb HA12.out)
 have HI13:=hide (below_at hb HI12.out)
 have HT13:=hide (below_at hb HT12.out)
 have HR13:=hide (HR12.out.below hb)
 clear hb HC a0 i0 HB12 HA12 HI12 HT12 HR12
 have a0:w13.cell? ⟨w.heap.size,0,none⟩=some (.slice (some x) 3 c):=by simp[World.cell?,HA13.out]
 have i0:w13.cell? ⟨w.heap.size+1,0,none⟩=some (.int .i64 2):=by simp[World.cell?,HI13.out]
 have ca:w13.cell? ⟨x.block,x.off+2,none⟩=some (.int .i64 98):=by have:=HR13.out 2 (by decide);rw[adde0 x (by omega)]at this;exact this
 have HC:=hide (ptok_any 98 w13)
 go_wp2_with fail
 refine HC.out.mono ?_
 rintro e w14 ⟨rfl,hb⟩
 clear ca
 have HB14:=hide (HB13.out.andT hb)
 have HA14:=hide (below_at hb HA13.out)
 have HI14:=hide (below_at hb HI13.out)
 have HT14:=hide (below_at hb HT13.out)
 have HR14:=hide (HR13.out.below hb)
 clear hb HC a0 i0 HB13 HA13 HI13 HT13 HR13
 obtain⟨m0,m1,m2,m3,m4,m5,m6,m7⟩:=tok_cells HT14.out
 have fr0:=tok_free HT14.out
 simp only[tokV,pointT]
 go_wp2
 exact ret_t2 (N:=w.heap.size+1+1) (t0:={}) (W:=w14) (t:=pointT 98) (k:=3) (z:=0) rfl rfl rfl rfl HT14.out ⟨rfl,tset_below HB14.out (by omega) _⟩
end Go.Proofs.YtfnndcbjklppeaaGreatDoor
