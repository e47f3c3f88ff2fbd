import Derived.Test.YtfmcngncaffloaaGreatDoorG30RvN
set_option maxHeartbeats 6400000
namespace Go.Proofs.YtfmcngncaffloaaGreatDoor
open Go.RowKit
set_option maxRecDepth 100000
theorem zqv(ks:List Mk)(la:Option Addr)(c:Nat)(ob a b:Int)(w:World)(h:MksAt w la ks)(hl:ks.length<=1048576)(hd:∀k∈ks,k.m.e.dots.length<=1048576)(ht:(treeK ks (ks.length+1) ⟨0,0,0⟩).length<=1048576)(hno:a<0∨((zau ks).length:Int)<=a):
  Calls Tryz.prog 133 #[.slice la ks.length c,I 6,I ob,I a,I b] w fun e w'=>EffOk w (ef0 6 ob) false 11 e w':=by
 obtain⟨wA,hwA⟩:∃wA,wA=(w.alloc (.cells #[I 0,I 0,I 0,I 0,I 0,I 0, .slice none 0 0] 149)).alloc (.cells #[I 6,I ob,I 0,I 0,I 0,I 0, .slice none 0 0] 149):=⟨_,rfl⟩
 have HZ:Hid (Blk wA w.heap.size #[I 0,I 0,I 0,I 0,I 0,I 0, .slice none 0 0] 149):=by rw [hwA];exact Blk.alloc (heap_alloc_new w _) _
 have HX:Hid (Blk wA (w.heap.size+1) #[I 6,I ob,I 0,I 0,I 0,I 0, .slice none 0 0] 149):=by rw [hwA];exact ze2 w _ _ _ _
 have HB0:Hid (Below w.heap.size w wA):=by rw [hwA];exact((Below.refl _ _).alloc (Nat.le_refl _) _).alloc (by simp) _
 have hzA:wA.heap.size=w.heap.size+1+1:=by rw [hwA];simp
 have HC:=zce ks la c wA (h.kept HB0.out) hl hd ht
 have hLL:(zau ks).length<=1048576:=Nat.le_trans (List.length_filter_le _ _) ht
 generalize zau ks=L at *
 clear h hd ht
 go_enter Tryz.func133,Tryz.ntmps133
 go_wp2_with fail
 change Calls _ _ _ ((w.alloc (.cells #[I 0,I 0,I 0,I 0,I 0,I 0, .slice none 0 0] 149)).alloc (.cells #[I 6,I ob,I 0,I 0,I 0,I 0, .slice none 0 0] 149)) _
 rw [←hwA]
 clear hwA
 refine HC.mono ?_
 rintro e w2 ⟨v1,rfl,hown1,hb1⟩
 obtain⟨oa,oc,rfl⟩:=zar hown1
 have HA1:Hid (At w2 oa (flat Mk.cells L)):=zaw hown1
 have HB2:Hid (Below wA.heap.size wA w2):=hb1
 clear hown1 hb1 HC
 have HBw:Hid (Below w.heap.size w w2):=HB0.out.trans (HB2.out.mono (by omega))
 have HZ2:Hid (Blk w2 w.heap.size #[I 0,I 0,I 0,I 0,I 0,I 0, .slice none 0 0] 149):=HZ.out.kept HB2.out (by omega)
 have HX2:Hid (Blk w2 (w.heap.size+1) #[I 6,I ob,I 0,I 0,I 0,I 0, .slice none 0 0] 149):=HX.out.kept HB2.out (by omega)
 have HALL:Hid (∀(x0 x1 x2 x3 x4 x5:Int), #[I x0,I x1,I x2,I x3,I x4,I x5, .slice none 0 0].all (·.oneCell')=true):=fun _ _ _ _ _ _=>by simp [Value.oneCell',I]
 have HN0:Hid (∀wx:World,wx.ownsRow (w.heap.size+2) 146 3 (.slice none 0 0) 0 (flat zab [])):=fun _=>⟨rfl, .inl ⟨rfl,rfl⟩⟩
 clear HZ HX HB0
 by_cases hneg:a<0
 ·clear hno
  go_wp2_with (first | (refine wpList_load_row rfl 149 _ rfl (w.heap.size+1) rfl 149 _ (0,0) _ HX2.out Tryz.underlying149 rfl rfl ?_) | (refine wpList_store_row rfl 149 _ _ rfl w.heap.size #[I 6,I ob,I 0,I 0,I 0,I 0, .slice none 0 0] rfl rfl 149 _ HZ2.out rfl rfl (HALL.out _ _ _ _ _ _) ?_))
  refine za8 (B:=w.heap.size) (zb8 HZ2.out).1 rfl rfl rfl rfl ?_
  exact zd1 (E:=ef0 6 ob) HBw.out ((zdw _ _ _).mono (fun _ _ h=> .inl h)) (Nat.le_refl _) (HN0.out _)
 ·have hge:(L.length:Int)<=a:=hno.resolve_left hneg
  clear hno
  go_wp2_with (first | (refine wpList_load_row rfl 149 _ rfl (w.heap.size+1) rfl 149 _ (0,0) _ HX2.out Tryz.underlying149 rfl rfl ?_) | (refine wpList_store_row rfl 149 _ _ rfl w.heap.size #[I 6,I ob,I 0,I 0,I 0,I 0, .slice none 0 0] rfl rfl 149 _ HZ2.out rfl rfl (HALL.out _ _ _ _ _ _) ?_))
  refine za8 (B:=w.heap.size) (zb8 HZ2.out).1 rfl rfl rfl rfl ?_
  exact zd1 (E:=ef0 6 ob) HBw.out ((zdw _ _ _).mono (fun _ _ h=> .inl h)) (Nat.le_refl _) (HN0.out _)
theorem zqw(ks:List Mk)(la:Option Addr)(c:Nat)(ob a b:Int)(w:World)(h:MksAt w la ks)(hl:ks.length<=1048576)(hd:∀k∈ks,k.m.e.dots.length<=1048576)(ht:(treeK ks (ks.length+1) ⟨0,0,0⟩).length<=1048576)(hb:¬badV b)(hno:a<0∨((zau ks).length:Int)<a):
  Calls Tryz.prog 133 #[.slice la ks.length c,I 5,I ob,I a,I b] w fun e w'=>EffOk w (ef0 5 ob) false 11 e w':=by
 have h1:¬b<0:=fun h=>hb (.inl h)
 have h2:¬255<b:=fun h=>hb (.inr h)
 clear hb
 obtain⟨wA,hwA⟩:∃wA,wA=(w.alloc (.cells #[I 0,I 0,I 0,I 0,I 0,I 0, .slice none 0 0] 149)).alloc (.cells #[I 5,I ob,I 0,I 0,I 0,I 0, .slice none 0 0] 149):=⟨_,rfl⟩
 have HZ:Hid (Blk wA w.heap.size #[I 0,I 0,I 0,I 0,I 0,I 0, .slice none 0 0] 149):=by rw [hwA];exact Blk.alloc (heap_alloc_new w _) _
 have HX:Hid (Blk wA (w.heap.size+1) #[I 5,I ob,I 0,I 0,I 0,I 0, .slice none 0 0] 149):=by rw [hwA];exact ze2 w _ _ _ _
 have HB0:Hid (Below w.heap.size w wA):=by rw [hwA];exact((Below.refl _ _).alloc (Nat.le_refl _) _).alloc (by simp) _
 have hzA:wA.heap.size=w.heap.size+1+1:=by rw [hwA];simp
 have HC:=zce ks la c wA (h.kept HB0.out) hl hd ht
 have hLL:(zau ks).length<=1048576:=Nat.le_trans (List.length_filter_le _ _) ht
 generalize zau ks=L at *
 clear h hd ht
 go_enter Tryz.func133,Tryz.ntmps133
 go_wp2_with fail
 change Calls _ _ _ ((w.alloc (.cells #[I 0,I 0,I 0,I 0,I 0,I 0, .slice none 0 0] 149)).alloc (.cells #[I 5,I ob,I 0,I 0,I 0,I 0, .slice none 0 0] 149)) _
 rw [←hwA]
 clear hwA
 refine HC.mono ?_
 rintro e w2 ⟨v1,rfl,hown1,hb1⟩
 obtain⟨oa,oc,rfl⟩:=zar hown1
 have HA1:Hid (At w2 oa (flat Mk.cells L)):=zaw hown1
 have HB2:Hid (Below wA.heap.size wA w2):=hb1
 clear hown1 hb1 HC
 have HBw:Hid (Below w.heap.size w w2):=HB0.out.trans (HB2.out.mono (by omega))
 have HZ2:Hid (Blk w2 w.heap.size #[I 0,I 0,I 0,I 0,I 0,I 0, .slice none 0 0] 149):=HZ.out.kept HB2.out (by omega)
 have HX2:Hid (Blk w2 (w.heap.size+1) #[I 5,I ob,I 0,I 0,I 0,I 0, .slice none 0 0] 149):=HX.out.kept HB2.out (by omega)
 have HALL:Hid (∀(x0 x1 x2 x3 x4 x5:Int), #[I x0,I x1,I x2,I x3,I x4,I x5, .slice none 0 0].all (·.oneCell')=true):=fun _ _ _ _ _ _=>by simp [Value.oneCell',I]
 have HN0:Hid (∀wx:World,wx.ownsRow (w.heap.size+2) 146 3 (.slice none 0 0) 0 (flat zab [])):=fun _=>⟨rfl, .inl ⟨rfl,rfl⟩⟩
 clear HZ HX HB0
 by_cases hneg:a<0
 ·clear hno
  go_wp2_with (first | (refine wpList_load_row rfl 149 _ rfl (w.heap.size+1) rfl 149 _ (0,0) _ HX2.out Tryz.underlying149 rfl rfl ?_) | (refine wpList_store_row rfl 149 _ _ rfl w.heap.size #[I 5,I ob,I 0,I 0,I 0,I 0, .slice none 0 0] rfl rfl 149 _ HZ2.out rfl rfl (HALL.out _ _ _ _ _ _) ?_))
  refine za8 (B:=w.heap.size) (zb8 HZ2.out).1 rfl rfl rfl rfl ?_
  exact zd1 (E:=ef0 5 ob) HBw.out ((zdw _ _ _).mono (fun _ _ h=> .inl h)) (Nat.le_refl _) (HN0.out _)
 ·have hge:(L.length:Int)<a:=hno.resolve_left hneg
  clear hno
  go_wp2_with (first | (refine wpList_load_row rfl 149 _ rfl (w.heap.size+1) rfl 149 _ (0,0) _ HX2.out Tryz.underlying149 rfl rfl ?_) | (refine wpList_store_row rfl 149 _ _ rfl w.heap.size #[I 5,I ob,I 0,I 0,I 0,I 0, .slice none 0 0] rfl rfl 149 _ HZ2.out rfl rfl (HALL.out _ _ _ _ _ _) ?_))
  refine za8 (B:=w.heap.size) (zb8 HZ2.out).1 rfl rfl rfl rfl ?_
  exact zd1 (E:=ef0 5 ob) HBw.out ((zdw _ _ _).mono (fun _ _ h=> .inl h)) (Nat.le_refl _) (HN0.out _)
theorem zl5(ks:List Mk)(la:Option Addr)(c:Nat)(ob b:Int)(w:World)(h:MksAt w la ks)(hl:ks.length<=1048576)(hd:∀k∈ks,k.m.e.dots.length<=1048576)(ht:(treeK ks (ks.length+1) ⟨0,0,0⟩).length<=1048576)(k:Nat)(x:Mk)(hx:(zau ks)[k]?=some x):
  Calls Tryz.prog 133 #[.slice la ks.length c,I 6,I ob,I (k:Int),I b] w fun e w'=>EffOk w {ef0 6 ob with ref:=x.d} true 0 e w':=by
 obtain⟨wA,hwA⟩:∃wA,wA=(w.alloc (.cells #[I 0,I 0,I 0,I 0,I 0,I 0, .slice none 0 0] 149)).alloc (.cells #[I 6,I ob,I 0,I 0,I 0,I 0, .slice none 0 0] 149):=⟨_,rfl⟩
 have HZ:Hid (Blk wA w.heap.size #[I 0,I 0,I 0,I 0,I 0,I 0, .slice none 0 0] 149):=by rw [hwA];exact Blk.alloc (heap_alloc_new w _) _
 have HX:Hid (Blk wA (w.heap.size+1) #[I 6,I ob,I 0,I 0,I 0,I 0, .slice none 0 0] 149):=by rw [hwA];exact ze2 w _ _ _ _
 have HB0:Hid (Below w.heap.size w wA):=by rw [hwA];exact((Below.refl _ _).alloc (Nat.le_refl _) _).alloc (by simp) _
 have hzA:wA.heap.size=w.heap.size+1+1:=by rw [hwA];simp
 have HC:=zce ks la c wA (h.kept HB0.out) hl hd ht
 have hLL:(zau ks).length<=1048576:=Nat.le_trans (List.length_filter_le _ _) ht
 generalize zau ks=L at *
 clear h hd ht
 go_enter Tryz.func133,Tryz.ntmps133
 go_wp2_with fail
 change Calls _ _ _ ((w.alloc (.cells #[I 0,I 0,I 0,I 0,I 0,I 0, .slice none 0 0] 149)).alloc (.cells #[I 6,I ob,I 0,I 0,I 0,I 0, .slice none 0 0] 149)) _
 rw [←hwA]
 clear hwA
 refine HC.mono ?_
 rintro e w2 ⟨v1,rfl,hown1,hb1⟩
 obtain⟨oa,oc,rfl⟩:=zar hown1
 have HA1:Hid (At w2 oa (flat Mk.cells L)):=zaw hown1
 have HB2:Hid (Below wA.heap.size wA w2):=hb1
 clear hown1 hb1 HC
 have HBw:Hid (Below w.heap.size w w2):=HB0.out.trans (HB2.out.mono (by omega))
 have HZ2:Hid (Blk w2 w.heap.size #[I 0,I 0,I 0,I 0,I 0,I 0, .slice none 0 0] 149):=HZ.out.kept HB2.out (by omega)
 have HX2:Hid (Blk w2 (w.heap.size+1) #[I 6,I ob,I 0,I 0,I 0,I 0, .slice none 0 0] 149):=HX.out.kept HB2.out (by omega)
 have HALL:Hid (∀(x0 x1 x2 x3 x4 x5:Int), #[I x0,I x1,I x2,I x3,I x4,I x5, .slice none 0 0].all (·.oneCell')=true):=fun _ _ _ _ _ _=>by simp [Value.oneCell',I]
 have HN0:Hid (∀wx:World,wx.ownsRow (w.heap.size+2) 146 3 (.slice none 0 0) 0 (flat zab [])):=fun _=>⟨rfl, .inl ⟨rfl,rfl⟩⟩
 clear HZ HX HB0
 obtain⟨hk,hkx⟩:=List.getElem?_eq_some_iff.1 hx
 have hki:(k:Int)<L.length:=by omega
 have hkn:¬(k:Int)<0:=by omega
 obtain⟨p,q,rfl,hc⟩:=zbh HA1.out (by omega)
 have g0:w2.cell? ⟨p,q+k*11+7,none⟩=some (I x.d.o):=by rw [←hkx];exact hc k hk 7 _ rfl
 have g1:w2.cell? ⟨p,q+k*11+7+1,none⟩=some (I x.d.s):=by rw [←hkx];exact hc k hk 8 _ rfl
 have g2:w2.cell? ⟨p,q+k*11+7+2,none⟩=some (I x.d.i):=by rw [←hkx];exact hc k hk 9 _ rfl
 clear hc hkx hx
 have x3:w2.cell? ⟨w.heap.size+1,3,none⟩=some (I 0):=HX2.out.cell 3
 have y3:w2.frozen? ⟨w.heap.size+1,3,none⟩=false:=HX2.out.frozen 3
 have x4:w2.cell? ⟨w.heap.size+1,4,none⟩=some (I 0):=HX2.out.cell 4
 have y4:w2.frozen? ⟨w.heap.size+1,4,none⟩=false:=HX2.out.frozen 4
 have x5:w2.cell? ⟨w.heap.size+1,5,none⟩=some (I 0):=HX2.out.cell 5
 have y5:w2.frozen? ⟨w.heap.size+1,5,none⟩=false:=HX2.out.frozen 5
 have HX3:Hid (Blk (((w2.setCell ⟨w.heap.size+1,3,none⟩ (I x.d.o)).setCell ⟨w.heap.size+1,4,none⟩ (I x.d.s)).setCell ⟨w.heap.size+1,5,none⟩ (I x.d.i)) (w.heap.size+1) #[I 6,I ob,I 0,I x.d.o,I x.d.s,I x.d.i, .slice none 0 0] 149):=(((HX2.out.set 3 _).set 4 _).set 5 _)
 have HZ3:Hid (Blk (((w2.setCell ⟨w.heap.size+1,3,none⟩ (I x.d.o)).setCell ⟨w.heap.size+1,4,none⟩ (I x.d.s)).setCell ⟨w.heap.size+1,5,none⟩ (I x.d.i)) w.heap.size #[I 0,I 0,I 0,I 0,I 0,I 0, .slice none 0 0] 149):=(((HZ2.out.other (by show w.heap.size ≠ w.heap.size+1;omega) _).other (by show w.heap.size ≠ w.heap.size+1;omega) _).other (by show w.heap.size ≠ w.heap.size+1;omega) _)
 go_wp2_with (first | (refine wpList_load_row rfl 149 _ rfl (w.heap.size+1) rfl 149 _ (0,0) _ HX3.out Tryz.underlying149 rfl rfl ?_) | (refine wpList_store_row rfl 149 _ _ rfl w.heap.size #[I 6,I ob,I 0,I x.d.o,I x.d.s,I x.d.i, .slice none 0 0] rfl rfl 149 _ HZ3.out rfl rfl (HALL.out _ _ _ _ _ _) ?_))
 refine za8 (B:=w.heap.size) (zb8 HZ3.out).1 rfl rfl rfl rfl ?_
 exact zd1 (E:={ef0 6 ob with ref:=x.d}) HBw.out (((((Tch.refl _ _).setCell ⟨w.heap.size+1,3,none⟩ _ (.inl (.inr rfl))).setCell ⟨w.heap.size+1,4,none⟩ _ (.inl (.inr rfl))).setCell ⟨w.heap.size+1,5,none⟩ _ (.inl (.inr rfl))).then ((zdw _ _ _).mono (fun _ _ h=> .inl h))) (Nat.le_refl _) (HN0.out _)
theorem zn3(ks:List Mk)(la:Option Addr)(c:Nat)(ob b:Int)(w:World)(h:MksAt w la ks)(hl:ks.length<=1048576)(hd:∀k∈ks,k.m.e.dots.length<=1048576)(ht:(treeK ks (ks.length+1) ⟨0,0,0⟩).length<=1048576)(hb:¬badV b):
  Calls Tryz.prog 133 #[.slice la ks.length c,I 5,I ob,I 0,I b] w fun e w'=>EffOk w {ef0 5 ob with va:=b} true 0 e w':=by
 have h1:¬b<0:=fun h=>hb (.inl h)
 have h2:¬255<b:=fun h=>hb (.inr h)
 clear hb
 obtain⟨wA,hwA⟩:∃wA,wA=(w.alloc (.cells #[I 0,I 0,I 0,I 0,I 0,I 0, .slice none 0 0] 149)).alloc (.cells #[I 5,I ob,I 0,I 0,I 0,I 0, .slice none 0 0] 149):=⟨_,rfl⟩
 have HZ:Hid (Blk wA w.heap.size #[I 0,I 0,I 0,I 0,I 0,I 0, .slice none 0 0] 149):=by rw [hwA];exact Blk.alloc (heap_alloc_new w _) _
 have HX:Hid (Blk wA (w.heap.size+1) #[I 5,I ob,I 0,I 0,I 0,I 0, .slice none 0 0] 149):=by rw [hwA];exact ze2 w _ _ _ _
 have HB0:Hid (Below w.heap.size w wA):=by rw [hwA];exact((Below.refl _ _).alloc (Nat.le_refl _) _).alloc (by simp) _
 have hzA:wA.heap.size=w.heap.size+1+1:=by rw [hwA];simp
 have HC:=zce ks la c wA (h.kept HB0.out) hl hd ht
 have hLL:(zau ks).length<=1048576:=Nat.le_trans (List.length_filter_le _ _) ht
 generalize zau ks=L at *
 clear h hd ht
 go_enter Tryz.func133,Tryz.ntmps133
 go_wp2_with fail
 change Calls _ _ _ ((w.alloc (.cells #[I 0,I 0,I 0,I 0,I 0,I 0, .slice none 0 0] 149)).alloc (.cells #[I 5,I ob,I 0,I 0,I 0,I 0, .slice none 0 0] 149)) _
 rw [←hwA]
 clear hwA
 refine HC.mono ?_
 rintro e w2 ⟨v1,rfl,hown1,hb1⟩
 obtain⟨oa,oc,rfl⟩:=zar hown1
 have HA1:Hid (At w2 oa (flat Mk.cells L)):=zaw hown1
 have HB2:Hid (Below wA.heap.size wA w2):=hb1
 clear hown1 hb1 HC
 have HBw:Hid (Below w.heap.size w w2):=HB0.out.trans (HB2.out.mono (by omega))
 have HZ2:Hid (Blk w2 w.heap.size #[I 0,I 0,I 0,I 0,I 0,I 0, .slice none 0 0] 149):=HZ.out.kept HB2.out (by omega)
 have HX2:Hid (Blk w2 (w.heap.size+1) #[I 5,I ob,I 0,I 0,I 0,I 0, .slice none 0 0] 149):=HX.out.kept HB2.out (by omega)
 have HALL:Hid (∀(x0 x1 x2 x3 x4 x5:Int), #[I x0,I x1,I x2,I x3,I x4,I x5, .slice none 0 0].all (·.oneCell')=true):=fun _ _ _ _ _ _=>by simp [Value.oneCell',I]
 have HN0:Hid (∀wx:World,wx.ownsRow (w.heap.size+2) 146 3 (.slice none 0 0) 0 (flat zab [])):=fun _=>⟨rfl, .inl ⟨rfl,rfl⟩⟩
 clear HZ HX HB0
 have hln:¬(L.length:Int)<0:=by omega
 have x2:w2.cell? ⟨w.heap.size+1,2,none⟩=some (I 0):=HX2.out.cell 2
 have y2:w2.frozen? ⟨w.heap.size+1,2,none⟩=false:=HX2.out.frozen 2
 have HX3:Hid (Blk (w2.setCell ⟨w.heap.size+1,2,none⟩ (I b)) (w.heap.size+1) #[I 5,I ob,I b,I 0,I 0,I 0, .slice none 0 0] 149):=(HX2.out.set 2 _)
 have HZ3:Hid (Blk (w2.setCell ⟨w.heap.size+1,2,none⟩ (I b)) w.heap.size #[I 0,I 0,I 0,I 0,I 0,I 0, .slice none 0 0] 149):=(HZ2.out.other (by show w.heap.size ≠ w.heap.size+1;omega) _)
 go_wp2_with (first | (refine wpList_load_row rfl 149 _ rfl (w.heap.size+1) rfl 149 _ (0,0) _ HX3.out Tryz.underlying149 rfl rfl ?_) | (refine wpList_store_row rfl 149 _ _ rfl w.heap.size #[I 5,I ob,I b,I 0,I 0,I 0, .slice none 0 0] rfl rfl 149 _ HZ3.out rfl rfl (HALL.out _ _ _ _ _ _) ?_))
 refine za8 (B:=w.heap.size) (zb8 HZ3.out).1 rfl rfl rfl rfl ?_
 exact zd1 (E:={ef0 5 ob with va:=b}) HBw.out (((Tch.refl _ _).setCell ⟨w.heap.size+1,2,none⟩ _ (.inl (.inr rfl))).then ((zdw _ _ _).mono (fun _ _ h=> .inl h))) (Nat.le_refl _) (HN0.out _)
theorem zjx(L:List Mk)(a:Int)(i:Nat)(hi:i<L.length):((L.take (i+1)).filter (fun k=>decide (k.m.e.va=a))).map (·.d)=((L.take i).filter (fun k=>decide (k.m.e.va=a))).map (·.d)++(if L[i].m.e.va=a then [L[i].d] else []):=by
 rw [zej _ _ _ hi,List.map_append]
 congr 1
 by_cases h:L[i].m.e.va=a<;>simp [h]
theorem zb0{F:Nat->Prop}{w w':World}{b o:Nat}{u:Value}(h:Tch F w w')(hc:w.cell? ⟨b,o,none⟩=some u)(hn:¬F b):w'.cell? ⟨b,o,none⟩=some u:=zan hc (h.block b (zag hc) hn)
theorem zka{F:Nat->Prop}{n:Nat}{w w1 w2:World}(h:Tch F w1 w2)(hb:Below n w w1)(hn:n<=w1.heap.size)(hF:∀k,k<n->¬F k):Below n w w2:=⟨h.os.trans hb.os,h.tape.trans hb.tape,h.output.trans hb.output,Nat.le_trans hb.size h.size,fun k hk=>(h.block k (by omega) (hF k hk)).trans (hb.block k hk)⟩
theorem zj1(ks:List Mk)(la:Option Addr)(c:Nat)(ob a b:Int)(w:World)(h:MksAt w la ks)(hl:ks.length<=1048576)(hd:∀k∈ks,k.m.e.dots.length<=1048576)(hb:¬badV a):
  Calls Tryz.prog 133 #[.slice la ks.length c,I 3,I ob,I a,I b] w fun e w'=>EffOk w {ef0 3 ob with dots:=remK ks a} (decide (0<(remK ks a).length)) 0 e w':=by
 have h1:¬a<0:=fun h=>hb (.inl h)
 have h2:¬255<a:=fun h=>hb (.inr h)
 obtain⟨wA,hwA⟩:∃wA,wA=(w.alloc (.cells #[I 0,I 0,I 0,I 0,I 0,I 0, .slice none 0 0] 149)).alloc (.cells #[I 3,I ob,I 0,I 0,I 0,I 0, .slice none 0 0] 149):=⟨_,rfl⟩
 have HZ:Hid (Blk wA w.heap.size #[I 0,I 0,I 0,I 0,I 0,I 0, .slice none 0 0] 149):=by rw [hwA];exact Blk.alloc (heap_alloc_new w _) _
 have HX:Hid (Blk wA (w.heap.size+1) #[I 3,I ob,I 0,I 0,I 0,I 0, .slice none 0 0] 149):=by rw [hwA];exact ze2 w _ _ _ _
 have HB0:Hid (Below w.heap.size w wA):=by rw [hwA];exact((Below.refl _ _).alloc (Nat.le_refl _) _).alloc (by simp) _
 have hzA:wA.heap.size=w.heap.size+1+1:=by rw [hwA];simp
 obtain⟨i1,HI1⟩:∃i,Hid (Tryz.prog.info? 146=some i∧i.zero=some (.agg #[.int .i64 0, .int .i64 0, .int .i64 0])∧i.size=3∧i.bytes=24):=by obtain⟨i,h⟩:=info_parts zxf;exact⟨i,h⟩
 obtain⟨L,HL⟩:∃L,Hid (livK ks 2 3=L):=⟨_,rfl⟩
 have HC:=zet ks la c 2 3 wA (h.kept HB0.out) hl hd
 have HRK:Hid (remK ks a=(L.filter (fun k=>decide (k.m.e.va=a))).map (·.d)):=by show _=_;unfold remK;rw [HL.out]
 rw [HL.out] at HC
 have hLL:L.length<=1048576:=by rw [←HL.out];exact Nat.le_trans (zff _ _ _) hl
 clear hb h hd HL
 go_enter Tryz.func133,Tryz.ntmps133
 go_wp2_with fail
 change Calls _ _ _ ((w.alloc (.cells #[I 0,I 0,I 0,I 0,I 0,I 0, .slice none 0 0] 149)).alloc (.cells #[I 3,I ob,I 0,I 0,I 0,I 0, .slice none 0 0] 149)) _
 rw [←hwA]
 clear hwA
 refine HC.mono ?_
 rintro e w1 ⟨v1,rfl,hown1,hb1⟩
 obtain⟨oa,oc,rfl⟩:=zar hown1
 have HR1:Hid (w1.ownsRow wA.heap.size 259 11 (.slice oa L.length oc) L.length (flat Mk.cells L)):=hown1
 have HB1:Hid (Below wA.heap.size wA w1):=hb1
 have HZ1:Hid (Blk w1 w.heap.size #[I 0,I 0,I 0,I 0,I 0,I 0, .slice none 0 0] 149):=HZ.out.kept hb1 (by omega)
 have HX1:Hid (Blk w1 (w.heap.size+1) #[I 3,I ob,I 0,I 0,I 0,I 0, .slice none 0 0] 149):=HX.out.kept hb1 (by omega)
 have hz1:wA.heap.size<=w1.heap.size:=hb1.size
 clear hown1 hb1 HC HZ HX
 go_wp2_with fail
 go_loopw [15] (fun x wr=>∃(i:Nat) (da:Option Addr) (dc:Nat) (acc:List Wv.Dt),i<=L.length∧x=I i∧Hid (acc=((L.take i).filter (fun k=>decide (k.m.e.va=a))).map (·.d))∧Hid (Blk wr (w.heap.size+1) #[I 3,I ob,I 0,I 0,I 0,I 0, .slice da acc.length dc] 149)∧Hid (wr.ownsRow w1.heap.size 146 3 (.slice da acc.length dc) acc.length (flat zab acc))∧Hid (Tch (fun k=>k=w.heap.size+1) w1 wr)) (fun x _=>L.length - (intOf x).toNat)
 case atStart=>exact⟨0,none,0, [],by omega,rfl,rfl,HX1,⟨rfl, .inl ⟨rfl,rfl⟩⟩,Tch.refl _ _⟩
 case round=>
  obtain⟨i,da,dc,acc,hi2,rfl,HACC,HX2,HO2,HT2⟩:=hrel
  by_cases hlt2:i<L.length
  ·have hii2:(i:Int)<L.length:=by omega
   obtain⟨p,q,rfl,hc⟩:=zbh (zaw HR1.out) (by omega)
   have hpA:wA.heap.size<=p:=(HR1.out.lt p rfl).1
   have HSU:Hid (((L.take (i+1)).filter (fun k=>decide (k.m.e.va=a))).map (·.d)=acc++(if L[i].m.e.va=a then [L[i].d] else [])):=by show _=_;rw [zjx _ _ _ hlt2,HACC.out]
   have hacc:acc.length<=i:=by rw [HACC.out,List.length_map];have:=List.length_filter_le (fun k:Mk=>decide (k.m.e.va=a)) (L.take i);rw [List.length_take] at this;omega
   have f2:wr.cell? ⟨p,q+i*11+2,none⟩=some (I L[i].m.e.va):=zb0 HT2.out (hc i hlt2 2 _ rfl) (by omega)
   have f7:wr.cell? ⟨p,q+i*11+7,none⟩=some (I L[i].d.o):=zb0 HT2.out (hc i hlt2 7 _ rfl) (by omega)
   have f8:wr.cell? ⟨p,q+i*11+7+1,none⟩=some (I L[i].d.s):=zb0 HT2.out (hc i hlt2 8 _ rfl) (by omega)
   have f9:wr.cell? ⟨p,q+i*11+7+2,none⟩=some (I L[i].d.i):=zb0 HT2.out (hc i hlt2 9 _ rfl) (by omega)
   clear hc
   generalize L[i]=k at *
   by_cases hva:k.m.e.va=a
   ·have HN:Hid (acc++ [k.d]=((L.take (i+1)).filter (fun k=>decide (k.m.e.va=a))).map (·.d)):=by show _=_;rw [HSU.out,if_pos hva]
    rw [hva] at f2
    clear HSU HACC hva
    generalize k.d=d at *
    have e6:wr.cell? ⟨w.heap.size+1,6,none⟩=some (.slice da acc.length dc):=HX2.out.cell 6
    have e6c:(wr.alloc (.cells #[I d.o,I d.s,I d.i] 146)).cell? ⟨w.heap.size+1,6,none⟩=some (.slice da acc.length dc):=(HX2.out.alloc _).cell 6
    have hzr:w1.heap.size<=wr.heap.size:=HT2.out.size
    have hl4:(acc++ [d]).length=acc.length+1:=by simp
    go_wp2_with fail
    go_region_law ((refine step_append_lies _ (by rfl) _ _ _ (by rfl) w1.heap.size 146 i1 (.agg #[.int .i64 0, .int .i64 0, .int .i64 0]) 3 24 Tryz.underlying147 HI1.out.1 HI1.out.2.1 HI1.out.2.2.1 HI1.out.2.2.2 (by rfl) (by omega) (.slice da acc.length dc) acc.length (flat zab acc) (by rfl) (by first | exact HO2.out.alloc _ | exact(HO2.out.alloc _).drew | exact(HO2.out.drew).alloc _) ⟨wr.heap.size,0,none⟩ 1 1 [I d.o,I d.s,I d.i] (by rfl) (by rfl) (by first | exact zas wr _ _ | exact zb2 wr _ _) (zr2 d) (by omega) (by unfold maxLen;omega) (by omega) (by simp;omega) (wr.heap.size+1) (by simp) ?_;intro g5 cap5 w11 hown5 hgrow5 hat5 hlt5;have HT5:Hid (Tch (fun k=>w1.heap.size<=k) wr w11):=(by first | exact(((Tch.refl _ wr).alloc _).then ((Tch.grown hgrow5).mono (fun k _ e=>(HO2.out.lt k e).1))) | exact(((Tch.refl _ wr).drew.alloc _).then ((Tch.grown hgrow5).mono (fun k _ e=>(HO2.out.lt k e).1))) | exact(((Tch.refl _ wr).alloc _).drew.then ((Tch.grown hgrow5).mono (fun k _ e=>(HO2.out.lt k e).1))));have HX5:Hid (Blk w11 (w.heap.size+1) #[I 3,I ob,I 0,I 0,I 0,I 0, .slice da acc.length dc] 149):=HT5.out.blk HX2.out (by omega);have e6b:w11.cell? ⟨w.heap.size+1,6,none⟩=some (.slice da acc.length dc):=HX5.out.cell 6;have x6b:w11.frozen? ⟨w.heap.size+1,6,none⟩=false:=HX5.out.frozen 6))
    all_goals
     (have LX:Hid (Blk (w11.setCell ⟨w.heap.size+1,6,none⟩ (.slice (some ⟨g5,0,none⟩) (acc.length+1) cap5)) (w.heap.size+1) #[I 3,I ob,I 0,I 0,I 0,I 0, .slice (some ⟨g5,0,none⟩) (acc++ [d]).length cap5] 149):=by show Blk _ _ _ _;rw [hl4];exact HX5.out.set 6 _
      have LO:Hid ((w11.setCell ⟨w.heap.size+1,6,none⟩ (.slice (some ⟨g5,0,none⟩) (acc.length+1) cap5)).ownsRow w1.heap.size 146 3 (.slice (some ⟨g5,0,none⟩) (acc++ [d]).length cap5) (acc++ [d]).length (flat zab (acc++ [d]))):=by
       show World.ownsRow _ _ _ _ _ _ _
       rw [zk4,hl4]
       refine zah hown5 fun b hb=>heap_setCell_other _ ⟨w.heap.size+1,6,none⟩ _ _ ?_
       have:=(hown5.lt b hb).1
       show b ≠ w.heap.size+1
       omega
      have LT:Hid (Tch (fun k=>k=w.heap.size+1) w1 (w11.setCell ⟨w.heap.size+1,6,none⟩ (.slice (some ⟨g5,0,none⟩) (acc.length+1) cap5))):=Tch.setCell (HT2.out.trans HT5.out (fun _ _ h=>h) (fun k hk h=>by omega)) ⟨w.heap.size+1,6,none⟩ _ (.inl rfl)
      clear e6 e6b e6c x6b hown5 hgrow5 hat5 hlt5 HX5 HT5 HX2 HO2 HT2 f2 f7 f8 f9
      go_wp2_with fail
      go_roundw
      case rel=>exact⟨i+1,some ⟨g5,0,none⟩,cap5,acc++ [d],by omega,by go_num,HN,LX,LO,LT⟩
      case measure=>simp [intOf];omega)
   ·have HN:Hid (acc=((L.take (i+1)).filter (fun k=>decide (k.m.e.va=a))).map (·.d)):=by show _=_;rw [HSU.out,if_neg hva,List.append_nil]
    clear HSU HACC f7 f8 f9
    generalize k.m.e.va=z at *
    go_wp2_with fail
    go_roundw
    case rel=>exact⟨i+1,da,dc,acc,by omega,by go_num,HN,HX2,HO2,HT2⟩
    case measure=>simp [intOf];omega
  ·have hii2:¬(i:Int)<L.length:=by omega
   have HE2:Hid (acc=remK ks a):=by have:=HACC.out;rw [List.take_of_length_le (by omega)] at this;rw [HRK.out];exact this
   have HZ2:Hid (Blk wr w.heap.size #[I 0,I 0,I 0,I 0,I 0,I 0, .slice none 0 0] 149):=HT2.out.blk HZ1.out (by omega)
   have hzr:w1.heap.size<=wr.heap.size:=HT2.out.size
   have hT7:Tch (fun k=>k=w.heap.size) wr (put7 wr w.heap.size (I 3) (I ob) (I 0) (I 0) (I 0) (I 0) (.slice da acc.length dc)):=by
    unfold put7
    have key:∀(W:World) (o:Nat) (v:Value),Tch (fun k=>k=w.heap.size) wr W->Tch (fun k=>k=w.heap.size) wr (W.setCell ⟨w.heap.size,o,none⟩ v):=fun W o v h=>Tch.setCell (F:=fun k=>k=w.heap.size) h ⟨w.heap.size,o,none⟩ v (.inl rfl)
    exact key _ _ _ (key _ _ _ (key _ _ _ (key _ _ _ (key _ _ _ (key _ _ _ (key _ _ _ (Tch.refl _ wr)))))))
   have hTT:Tch (fun k=>k=w.heap.size∨k=w.heap.size+1) w1 wr:=HT2.out.mono (fun _ _ h=> .inr h)
   have hb7:Below w.heap.size w (put7 wr w.heap.size (I 3) (I ob) (I 0) (I 0) (I 0) (I 0) (.slice da acc.length dc)):=zka (hTT.trans hT7 (fun _ _ h=>h) (fun _ _ h=> .inl h)) (HB0.out.trans (HB1.out.mono (by omega))) (by omega) (fun k hk h=>by omega)
   have hr7:(put7 wr w.heap.size (I 3) (I ob) (I 0) (I 0) (I 0) (I 0) (.slice da acc.length dc)).ownsRow w.heap.size 146 3 (.slice da acc.length dc) acc.length (flat zab acc):=zbr (zah HO2.out (fun b e=>hT7.block b (HO2.out.lt b e).2 (by have:=(HO2.out.lt b e).1;omega))) (by omega)
   have HEND:Hid (EffOk w {ef0 3 ob with dots:=acc} (decide (0<acc.length)) 0 (.returned (.tuple #[.agg #[I 3,I ob,I 0,I 0,I 0,I 0, .slice da acc.length dc], .bool (decide (0<acc.length)),I 0])) (put7 wr w.heap.size (I 3) (I ob) (I 0) (I 0) (I 0) (I 0) (.slice da acc.length dc)).drew):=⟨da,dc,rfl,hr7.drew,hb7.drew⟩
   have HF:Hid (Blk (put7 wr w.heap.size (I 3) (I ob) (I 0) (I 0) (I 0) (I 0) (.slice da acc.length dc)).drew w.heap.size #[I 3,I ob,I 0,I 0,I 0,I 0, .slice da acc.length dc] 149):=(zwb HZ2.out _ _ _ _ _ _ _).drew
   clear hT7 hTT hb7 hr7
   have e0:wr.cell? ⟨w.heap.size+1,0,none⟩=some (I 3):=HX2.out.cell 0
   have e1:wr.cell? ⟨w.heap.size+1,1,none⟩=some (I ob):=HX2.out.cell 1
   have e2:wr.cell? ⟨w.heap.size+1,2,none⟩=some (I 0):=HX2.out.cell 2
   have e3:wr.cell? ⟨w.heap.size+1,3,none⟩=some (I 0):=HX2.out.cell 3
   have e4:wr.cell? ⟨w.heap.size+1,4,none⟩=some (I 0):=HX2.out.cell 4
   have e5:wr.cell? ⟨w.heap.size+1,5,none⟩=some (I 0):=HX2.out.cell 5
   have e6:wr.cell? ⟨w.heap.size+1,6,none⟩=some (.slice da acc.length dc):=HX2.out.cell 6
   have k0:wr.cell? ⟨w.heap.size,0,none⟩=some (.int .i64 0):=HZ2.out.cell 0
   have z0:wr.frozen? ⟨w.heap.size,0,none⟩=false:=HZ2.out.frozen 0
   have k1:wr.cell? ⟨w.heap.size,1,none⟩=some (.int .i64 0):=HZ2.out.cell 1
   have z1:wr.frozen? ⟨w.heap.size,1,none⟩=false:=HZ2.out.frozen 1
   have k2:wr.cell? ⟨w.heap.size,2,none⟩=some (.int .i64 0):=HZ2.out.cell 2
   have z2:wr.frozen? ⟨w.heap.size,2,none⟩=false:=HZ2.out.frozen 2
   have k3:wr.cell? ⟨w.heap.size,3,none⟩=some (.int .i64 0):=HZ2.out.cell 3
   have z3:wr.frozen? ⟨w.heap.size,3,none⟩=false:=HZ2.out.frozen 3
   have k4:wr.cell? ⟨w.heap.size,4,none⟩=some (.int .i64 0):=HZ2.out.cell 4
   have z4:wr.frozen? ⟨w.heap.size,4,none⟩=false:=HZ2.out.frozen 4
   have k5:wr.cell? ⟨w.heap.size,5,none⟩=some (.int .i64 0):=HZ2.out.cell 5
   have z5:wr.frozen? ⟨w.heap.size,5,none⟩=false:=HZ2.out.frozen 5
   have k6:wr.cell? ⟨w.heap.size,6,none⟩=some (.slice none 0 0):=HZ2.out.cell 6
   have z6:wr.frozen? ⟨w.heap.size,6,none⟩=false:=HZ2.out.frozen 6
   clear HO2 HX2 HZ2 HT2 HACC HRK
   go_wp2_with fail
   go_region_law (fail)
   all_goals
    (go_wp2
     refine za8 (B:=w.heap.size) (c0:=I 3) (c1:=I ob) (c2:=I 0) (c3:=I 0) (c4:=I 0) (c5:=I 0) (c6:= .slice da acc.length dc) (s:=decide (0<acc.length)) (n:=0) HF.out rfl rfl rfl rfl ?_
     rw [←HE2.out]
     exact HEND.out)
end Go.Proofs.YtfmcngncaffloaaGreatDoor
