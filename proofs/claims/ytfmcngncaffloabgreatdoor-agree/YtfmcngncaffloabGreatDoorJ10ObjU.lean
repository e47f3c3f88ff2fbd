import Derived.Test.YtfmcngncaffloabGreatDoorJ09ObjR
import Derived.Lib.Overlaps
import Derived.Lib.AppendZerosOnto
set_option maxHeartbeats 3200000
namespace Go.Proofs.YtfmcngncaffloabGreatDoor
open Go.RowKit Go.Proofs.Tryz Wv
set_option maxRecDepth 100000
theorem zz8{base g c:Nat}{ls:List El}{e:El}{i:Nat}(hi:i<ls.length)(hc:ls.length+1<=c){cur:Array Value}(hb:base<=g)(hm:c<=maxLen)(hz:cur.size=c*6)(ht:cur.toList.take (ls.length*6)=flat El.cells ls)(W:World)(cur2:Array Value)
  (hW:Blk W g cur2 365) (c1:List Value) (h1:c1=cur.toList.take ((i+1)*6)++flat El.cells (ls.drop i)++cur.toList.drop ((i+1)*6+(flat El.cells (ls.drop i)).length)) (h2:cur2.toList=c1.take (i*6)++e.cells++c1.drop (i*6+e.cells.length)):
  W.ownsRow base 365 6 (.slice (some ⟨g,0,none⟩) (ls.length+1) c) (insL ls i e).length (flat El.cells (insL ls i e)):=by
 have hA:(flat El.cells (ls.take i)).length=i*6:=by rw [zan El.cells 6 zak,al,Nat.min_eq_left (by omega)]
 have hX:e.cells.length=6:=rfl;have hBl:(flat El.cells (ls.drop i)).length=(ls.length - i)*6:=by rw [zan El.cells 6 zak,aP]
 have hsp:flat El.cells ls=flat El.cells (ls.take i)++flat El.cells (ls.drop i):=by rw [←za2,aH]
 have hcl:cur.toList=flat El.cells (ls.take i)++flat El.cells (ls.drop i)++cur.toList.drop (ls.length*6):=by rw [←hsp,←ht,aH]
 have hRl:(cur.toList.drop (ls.length*6)).length=c*6 - ls.length*6:=by rw [aP,Array.length_toList,hz]
 have hfin:=zrw (flat El.cells (ls.take i)) (flat El.cells (ls.drop i)) (cur.toList.drop (ls.length*6)) e.cells (by rw [hRl,hX];omega) cur.toList c1 hcl (by rw [h1,hA,hX,show(i+1)*6=i*6+6 by omega]);rw [hA] at hfin;rw [zd2 ls i e (by omega),zmi];have hlen2:(flat El.cells (ls.take i)++e.cells++flat El.cells (ls.drop i)).length=(ls.length+1)*6:=by rw [ah,ah,hA,hX,hBl];omega
 refine⟨by rw [hlen2], .inr ⟨g,c,cur2,rfl,hb,hW,hc,hm, ?_, ?_⟩⟩
 ·have:cur2.toList.length=c*6:=by rw [h2,hfin];simp only [ah,hA,hX,hBl,aP,Array.length_toList,hz];omega
  simpa using this
 ·rw [h2,hfin,←hlen2,List.take_left]
theorem zl6{w:World}{g:Nat}{cur:Array Value}{t:TypeId}(h:Blk w g cur t):w.shape? g=some (t,cur.size):=by
 have h':w.heap[g]?=some (.cells cur t (0,0)):=h;simp [World.shape?,h']
theorem zp1(base g c g2 i:Nat)(ls:List El)(e:El)(w:World)(h:w.ownsRow base 365 6 (.slice (some ⟨g,0,none⟩) ls.length c) ls.length (flat El.cells ls))(h2:Blk w g2 #[I e.s.d.o,I e.s.d.s,I e.s.d.i,I e.s.t,I e.v, .bool e.x] 365)(hne:g2 ≠ g)(hl:ls.length<=1048576)(hi:i<ls.length)(hc:ls.length+1<=c):
  Calls prog 317 #[.slice (some ⟨g,0,none⟩) ls.length c,I i, .slice (some ⟨g2,0,none⟩) 1 1] w fun r w'=>InsOk w base (.slice (some ⟨g,0,none⟩) ls.length c) (insL ls i e) r w':=by
 rcases h.2 with⟨e1,_⟩ | ⟨g',cap',cur,e1,hb,hg,h3,h4,hz,ht⟩
 ·cases e1
 cases e1
 have hg:Blk w g cur 365:=hg;obtain⟨c1,hc1⟩:∃c1,c1=cur.toList.take ((i+1)*6)++flat El.cells (ls.drop i)++cur.toList.drop ((i+1)*6+(flat El.cells (ls.drop i)).length):=⟨_,rfl⟩
 have hov:∀lb cb,(callFunc 322 #[.slice (some ⟨g2,0,none⟩) 1 1, .slice (some ⟨g,(i+1)*6,none⟩) lb cb]).run prog w= .ok (.value (.bool false)) w:=fun lb cb=>by
  rw [run_callFunc_extern func322 (by kernel_rfl) (by kernel_rfl) (by kernel_rfl) (e:=Extern.SlicesOverlaps.overlaps #[206,206] #[4]) (by kernel_rfl),
   Lib.run_overlaps_apart w 206 4 365 underlying206 6 Tryz.sizeOf365 ⟨g2,0,none⟩ ⟨g,(i+1)*6,none⟩ 1 1 lb cb hne _ _ _ _ (zl6 h2) (zl6 hg) (by rw [hz];omega) (h2.frozen 0) (h2.frozen _)]
  rfl
 have hsz:(prog.info? 365).map (·.size)=some 6:=by
  obtain⟨i0,hi0,_,h1,_⟩:=info_parts zid;rw [hi0];simp [h1]
 have hBl:(flat El.cells (ls.drop i)).length=(ls.length - i)*6:=by rw [zan El.cells 6 zak,aP]
 have hcp1:∀ty dc sc,(Builtin.copy_ #[206,206] ty #[.slice (some ⟨g,(i+1)*6,none⟩) (ls.length - i) dc, .slice (some ⟨g,i*6,none⟩) (ls.length+1 - i) sc]).run prog w.drew= .ok (goInt (ls.length - i:Nat)) (w.drew.setRow g c1.toArray):=fun ty dc sc=>by
  rw [hc1]
  exact zd8 w.drew _ ty 365 6 g ((i+1)*6) _ dc ⟨g,i*6,none⟩ _ sc cur _ (flat El.cells (ls.drop i)) underlying206 hsz hg (ls.length - i) (by simp only [Nat.min_def];split<;>omega) hBl (fun j v hj=>by
   rw [Addr.add_lit]
   have hj2:(flat El.cells ls)[i*6+j]?=some v:=by
    have hsp:flat El.cells ls=flat El.cells (ls.take i)++flat El.cells (ls.drop i):=by rw [←za2,aH]
    have hA:(flat El.cells (ls.take i)).length=i*6:=by rw [zan El.cells 6 zak,al,Nat.min_eq_left (by omega)]
    rw [hsp,List.getElem?_append_right (by omega),hA,Nat.add_sub_cancel_left];exact hj
   rw [←ht,List.getElem?_take] at hj2;split at hj2
   ·show w.cell? _=_
    rw [hg.cell];simpa using hj2
   ·cases hj2) (by rw [hBl,hz];omega) (zg1 _)
 have hW1:Blk (w.drew.setRow g c1.toArray) g c1.toArray 365:=setRow_heap w.drew g cur _ _ _ hg;have hc1l:c1.length=c*6:=by rw [hc1];simp only [ah,al,aP,Array.length_toList,hBl,hz];omega
 have hcp2:∀ty dc,(Builtin.copy_ #[206,206] ty #[.slice (some ⟨g,i*6,none⟩) (ls.length+1 - i) dc, .slice (some ⟨g2,0,none⟩) 1 1]).run prog (w.drew.setRow g c1.toArray)= .ok (goInt 1) ((w.drew.setRow g c1.toArray).setRow g (c1.toArray.toList.take (i*6)++e.cells++c1.toArray.toList.drop (i*6+e.cells.length)).toArray):=fun ty dc=>
  zd8 _ _ ty 365 6 g (i*6) _ dc ⟨g2,0,none⟩ 1 1 c1.toArray _ e.cells underlying206 hsz hW1 1 (by simp only [Nat.min_def];split<;>omega) rfl (fun j v hj=>by
   rw [Addr.add_lit,aV];have h2':Blk (w.drew.setRow g c1.toArray) g2 #[I e.s.d.o,I e.s.d.s,I e.s.d.i,I e.s.t,I e.v, .bool e.x] 365:=(setRow_other w.drew g g2 _ hne).trans h2;rw [h2'.cell];have:(e.cells).toArray= #[I e.s.d.o,I e.s.d.s,I e.s.d.i,I e.s.t,I e.v, .bool e.x]:=rfl;rw [←this]
   simpa using hj) (by rw [List.size_toArray,hc1l];show i*6+6<=_;omega) (by have:=zg1 [e];simpa [flat] using this)
 have hW2:Blk ((w.drew.setRow g c1.toArray).setRow g (c1.toArray.toList.take (i*6)++e.cells++c1.toArray.toList.drop (i*6+e.cells.length)).toArray) g (c1.toArray.toList.take (i*6)++e.cells++c1.toArray.toList.drop (i*6+e.cells.length)).toArray 365:=setRow_heap _ g c1.toArray _ _ _ hW1;have HOWN:Hid (((w.drew.setRow g c1.toArray).setRow g (c1.toArray.toList.take (i*6)++e.cells++c1.toArray.toList.drop (i*6+e.cells.length)).toArray).ownsRow base 365 6 (.slice (some ⟨g,0,none⟩) (ls.length+1) c) (insL ls i e).length (flat El.cells (insL ls i e))):=zz8 hi hc hb h4 hz ht _ _ hW2 c1 hc1 (by simp);have HGR:Hid (w.grownBy ((w.drew.setRow g c1.toArray).setRow g (c1.toArray.toList.take (i*6)++e.cells++c1.toArray.toList.drop (i*6+e.cells.length)).toArray) (some g)):=⟨rfl,rfl,rfl,by simp,fun k _ hk=>by rw [setRow_other _ g k _ (fun e=>hk (by rw [e])),setRow_other _ g k _ (fun e=>hk (by rw [e]))];rfl⟩
 clear hW1 hW2 hc1l hBl hsz ht h hg h2;generalize (c1.toArray.toList.take (i*6)++e.cells++c1.toArray.toList.drop (i*6+e.cells.length)).toArray=row2 at *
 generalize c1.toArray=row1 at *
 have hz1:¬((i:Int)=(ls.length:Int)):=by omega
 have hz2:¬((c:Int)<(ls.length:Int)+1):=by omega
 have hw1:IntKind.i64.wrap ((i:Int)+1)=(i:Int)+1:=by rw [IntKind.wrap_i64];omega
 have hw2:IntKind.i64.wrap ((ls.length:Int)+1)=(ls.length:Int)+1:=by rw [IntKind.wrap_i64];omega
 have hb1:(0:Int)<=(i:Int)+1:=by omega
 have htn:((i:Int)+1).toNat=i+1:=by omega
 have htl:((ls.length:Int)+1).toNat=ls.length+1:=by omega
 have hb2:¬(c=i+1):=by omega
 have hb4:¬(c=i):=by omega
 have hin:i<=ls.length:=by omega
 have hb3:(i:Int)<=(ls.length:Int)+1:=by omega
 unfold maxLen at h4;go_enter func317,ntmps317;go_wp2_with (simp only [hov])
 go_region_law (refine zgl rfl _ _ 206 rfl _ _ (by simp [Act.eval,Act.put]) (by simp [Act.eval,Act.put]) (hcp1 _ _ _) ?_)
 go_wp2_with (at_builtin;refine zfc _ rfl _ _ 206 rfl _ _ rfl rfl (hcp2 _ _) ?_)
 go_ret;exact⟨_,rfl,HOWN.out,HGR.out,Or.inl rfl⟩
theorem zl0(n:Nat):(Builtin.zeroCells (#[Value.int .i64 0, .int .i64 0, .int .i64 0, .int .i64 0, .int .i64 0, .bool false]:Array Value) n).size=n*6:=by simp [Builtin.zeroCells]
theorem zp2(base g c g2 i:Nat)(ls:List El)(e:El)(w:World)(hB:base<=w.heap.size)(h:w.ownsRow base 365 6 (.slice (some ⟨g,0,none⟩) ls.length c) ls.length (flat El.cells ls))(h2:Blk w g2 #[I e.s.d.o,I e.s.d.s,I e.s.d.i,I e.s.t,I e.v, .bool e.x] 365)(hl:ls.length<=1048576)(hi:i<ls.length)(hc:c<ls.length+1):
  Calls prog 317 #[.slice (some ⟨g,0,none⟩) ls.length c,I i, .slice (some ⟨g2,0,none⟩) 1 1] w fun r w'=>InsOk w base (.slice (some ⟨g,0,none⟩) ls.length c) (insL ls i e) r w':=by
 rcases h.2 with⟨e1,_⟩ | ⟨g',cap',cur,e1,hb,hg,h3,h4,hz,ht⟩
 ·cases e1
 cases e1
 have hg:Blk w g cur 365:=hg;have hgn:g<w.heap.size:=hg.lt;have hgn2:g2<w.heap.size:=h2.lt;obtain⟨i0,hi0,hz0,hzs,hzb⟩:=info_parts zid;have hsz:(prog.info? 365).map (·.size)=some 6:=by rw [hi0];simp [hzs]
 have hA:(flat El.cells (ls.take i)).length=i*6:=by rw [zan El.cells 6 zak,al,Nat.min_eq_left (by omega)]
 have hBl:(flat El.cells (ls.drop i)).length=(ls.length - i)*6:=by rw [zan El.cells 6 zak,aP]
 have hsp:flat El.cells ls=flat El.cells (ls.take i)++flat El.cells (ls.drop i):=by rw [←za2,aH]
 have hcell:∀j v,(flat El.cells ls)[j]?=some v->w.cell? ⟨g,j,none⟩=some v:=fun j v hj=>by
  rw [←ht,List.getElem?_take] at hj;split at hj
  ·rw [hg.cell];simpa using hj
  ·cases hj
 obtain⟨G,hG⟩:∃G,G=grownCap w (ls.length+1) c 365:=⟨_,rfl⟩
 have hG1:ls.length+1<=G:=by rw [hG];exact grownCap_ge w _ _ _
 have hG2:G<=maxLen:=by rw [hG];exact grownCap_le_maxLen w _ _ _ (by unfold maxLen;omega)
 have hold:(Builtin.firstCells i0.size i (.slice (some ⟨g,0,none⟩) i c)).run prog w.drew= .ok (flat El.cells (ls.take i)).toArray w.drew:=by
  rw [hzs];refine run_firstCells_some w.drew 6 i ⟨g,0,none⟩ i c _ hA (fun j v hj=> ?_);rw [Addr.add_lit,aV];refine hcell j v ?_;rw [hsp,List.getElem?_append_left (af.1 hj).1];exact hj
 obtain⟨ROW,hROW⟩:∃ROW,ROW=(flat El.cells (ls.take i)).toArray++Builtin.zeroCells (#[Value.int .i64 0, .int .i64 0, .int .i64 0, .int .i64 0, .int .i64 0, .bool false]:Array Value) (ls.length+1 - i)++Builtin.zeroCells (#[Value.int .i64 0, .int .i64 0, .int .i64 0, .int .i64 0, .int .i64 0, .bool false]:Array Value) (G - (ls.length+1)):=⟨_,rfl⟩
 have hrz:∀ty,(Builtin.append_ #[206,3] ty #[.slice (some ⟨g,0,none⟩) i c, .int .i64 ((ls.length:Int)+1 - (i:Int))]).run prog w= .ok (.slice (some ⟨w.heap.size,0,none⟩) (ls.length+1) G) (w.drew.alloc (.cells ROW 365)):=fun ty=>by
  have hik:i+(ls.length+1 - i)=ls.length+1:=by omega
  have h:=Lib.run_append_grow_zeros w 206 3 ty 365 i0 _ .i64 .i64 underlying206 underlying3 hi0 hz0 (some ⟨g,0,none⟩) i c (flat El.cells (ls.take i)) hold (ls.length+1 - i) (by omega) (by omega) (by omega) (by omega) (by rw [hzb];omega) (by rw [hzb,hik];exact growslice_fits hc (by omega));rw [hik,←hG] at h;rw [show(ls.length:Int)+1 - (i:Int)=((ls.length+1 - i:Nat):Int) by omega,hROW];exact h
 have hRl:ROW.size=G*6:=by
  rw [hROW];simp only [Array.size_append,List.size_toArray,hA,zl0];omega
 have hRt:ROW.toList=flat El.cells (ls.take i)++((Builtin.zeroCells (#[Value.int .i64 0, .int .i64 0, .int .i64 0, .int .i64 0, .int .i64 0, .bool false]:Array Value) (ls.length+1 - i)).toList++(Builtin.zeroCells (#[Value.int .i64 0, .int .i64 0, .int .i64 0, .int .i64 0, .int .i64 0, .bool false]:Array Value) (G - (ls.length+1))).toList):=by
  rw [hROW];simp
 obtain⟨W1,hW1⟩:∃W1,W1=w.drew.alloc (.cells ROW 365):=⟨_,rfl⟩
 have hB1:Blk W1 w.heap.size ROW 365:=by rw [hW1];exact heap_alloc_new w.drew _
 obtain⟨c1,hc1⟩:∃c1,c1=ROW.toList.take (i*6)++e.cells++ROW.toList.drop (i*6+e.cells.length):=⟨_,rfl⟩
 have hc1l:c1.length=G*6:=by rw [hc1];simp only [ah,al,aP,Array.length_toList,hRl];show _+6+(_ - (_+6))=_;omega
 have h2W:Blk W1 g2 #[I e.s.d.o,I e.s.d.s,I e.s.d.i,I e.s.t,I e.v, .bool e.x] 365:=by rw [hW1];exact h2.kept (((Below.refl _ _).drew).alloc (ac _) _) hgn2
 have hgW:Blk W1 g cur 365:=by rw [hW1];exact hg.kept (((Below.refl _ _).drew).alloc (ac _) _) hgn
 have hcpA:∀ty dc,(Builtin.copy_ #[206,206] ty #[.slice (some ⟨w.heap.size,i*6,none⟩) (ls.length+1 - i) dc, .slice (some ⟨g2,0,none⟩) 1 1]).run prog W1= .ok (goInt 1) (W1.setRow w.heap.size c1.toArray):=fun ty dc=>by
  rw [hc1]
  exact zd8 _ _ ty 365 6 w.heap.size (i*6) _ dc ⟨g2,0,none⟩ 1 1 ROW _ e.cells underlying206 hsz hB1 1 (by simp only [Nat.min_def];split<;>omega) rfl (fun j v hj=>by
   rw [Addr.add_lit,aV,h2W.cell];have:(e.cells).toArray= #[I e.s.d.o,I e.s.d.s,I e.s.d.i,I e.s.t,I e.v, .bool e.x]:=rfl;rw [←this]
   simpa using hj) (by rw [hRl];show i*6+6<=_;omega) (by have:=zg1 [e];simpa [flat] using this)
 obtain⟨W2,hW2⟩:∃W2,W2=W1.setRow w.heap.size c1.toArray:=⟨_,rfl⟩
 have hB2:Blk W2 w.heap.size c1.toArray 365:=by rw [hW2];exact setRow_heap _ _ ROW _ _ _ hB1
 have hgW2:Blk W2 g cur 365:=by rw [hW2];exact(setRow_other W1 w.heap.size g _ (by omega)).trans hgW
 have hcpB:∀(W:World),W=W2.drew->∀ty dc sc,(Builtin.copy_ #[206,206] ty #[.slice (some ⟨w.heap.size,(i+1)*6,none⟩) (ls.length - i) dc, .slice (some ⟨g,i*6,none⟩) (ls.length - i) sc]).run prog W= .ok (goInt (ls.length - i:Nat)) (W2.drew.setRow w.heap.size (c1.toArray.toList.take ((i+1)*6)++flat El.cells (ls.drop i)++c1.toArray.toList.drop ((i+1)*6+(flat El.cells (ls.drop i)).length)).toArray):=fun W hW ty dc sc=>by
  rw [hW]
  exact zd8 W2.drew _ ty 365 6 w.heap.size ((i+1)*6) _ dc ⟨g,i*6,none⟩ _ sc c1.toArray _ (flat El.cells (ls.drop i)) underlying206 hsz hB2 (ls.length - i) (Nat.min_self _) hBl (fun j v hj=>by
   rw [Addr.add_lit];show W2.cell? _=_;rw [hgW2.cell,←hg.cell];refine hcell _ v ?_;rw [hsp,List.getElem?_append_right (by omega),hA,Nat.add_sub_cancel_left]
   exact hj) (by rw [List.size_toArray,hc1l,hBl];omega) (zg1 _)
 have hfin:=zy6 (flat El.cells (ls.take i)) ((Builtin.zeroCells (#[Value.int .i64 0, .int .i64 0, .int .i64 0, .int .i64 0, .int .i64 0, .bool false]:Array Value) (ls.length+1 - i)).toList++(Builtin.zeroCells (#[Value.int .i64 0, .int .i64 0, .int .i64 0, .int .i64 0, .int .i64 0, .bool false]:Array Value) (G - (ls.length+1))).toList) e.cells (flat El.cells (ls.drop i)) ROW.toList c1 hRt (by rw [hA];exact hc1);have hXl:e.cells.length=6:=rfl
 have hrow:c1.toArray.toList.take ((i+1)*6)++flat El.cells (ls.drop i)++c1.toArray.toList.drop ((i+1)*6+(flat El.cells (ls.drop i)).length)=flat El.cells (insL ls i e)++((Builtin.zeroCells (#[Value.int .i64 0, .int .i64 0, .int .i64 0, .int .i64 0, .int .i64 0, .bool false]:Array Value) (ls.length+1 - i)).toList++(Builtin.zeroCells (#[Value.int .i64 0, .int .i64 0, .int .i64 0, .int .i64 0, .int .i64 0, .bool false]:Array Value) (G - (ls.length+1))).toList).drop (e.cells.length+(flat El.cells (ls.drop i)).length):=by
  rw [zmi,←hfin,hA,hXl,show(i+1)*6=i*6+6 by omega]
 rw [hrow] at hcpB;have hil:(flat El.cells (insL ls i e)).length=(ls.length+1)*6:=by rw [zan El.cells 6 zak,zd2 ls i e (by omega)]
 obtain⟨fin,hfn⟩:∃fin,fin=flat El.cells (insL ls i e)++((Builtin.zeroCells (#[Value.int .i64 0, .int .i64 0, .int .i64 0, .int .i64 0, .int .i64 0, .bool false]:Array Value) (ls.length+1 - i)).toList++(Builtin.zeroCells (#[Value.int .i64 0, .int .i64 0, .int .i64 0, .int .i64 0, .int .i64 0, .bool false]:Array Value) (G - (ls.length+1))).toList).drop (e.cells.length+(flat El.cells (ls.drop i)).length):=⟨_,rfl⟩
 rw [←hfn] at hcpB
 have hfl:fin.length=G*6:=by
  rw [hfn];simp only [ah,aP,Array.length_toList,zl0,hil,hBl,hXl];omega
 have HOWN:Hid ((W2.drew.setRow w.heap.size fin.toArray).ownsRow base 365 6 (.slice (some ⟨w.heap.size,0,none⟩) (ls.length+1) G) (insL ls i e).length (flat El.cells (insL ls i e))):=by
  refine⟨by rw [hil,zd2 ls i e (by omega)], .inr ⟨w.heap.size,G,fin.toArray,by rw [zd2 ls i e (by omega)],hB,setRow_heap _ _ c1.toArray _ _ _ hB2,by rw [zd2 ls i e (by omega)];exact hG1,hG2,by simpa using hfl, ?_⟩⟩;rw [zd2 ls i e (by omega),←hil,hfn];exact List.take_left
 have HGR:Hid (w.grownBy (W2.drew.setRow w.heap.size fin.toArray) (some g)):=by
  have hbl:Below w.heap.size w W1:=by rw [hW1];exact((Below.refl _ _).drew).alloc (ac _) _
  refine⟨?_, ?_, ?_, ?_,fun k hk _=> ?_⟩
  ·rw [hW2];exact hbl.os
  ·rw [hW2];exact hbl.tape
  ·rw [hW2];exact hbl.output
  ·rw [hW2];have:=hbl.size;simpa using this
  ·rw [setRow_other _ _ k _ (by omega),hW2]
   show(W1.setRow _ _).heap[k]?=_;rw [setRow_other _ _ k _ (by omega)];exact hbl.block k hk
 rw [←hW1] at hrz;rw [←hW2] at hcpA;clear hfl hfn hil hrow hfin hXl hgW2 hB2 hW2 hgW h2W hc1l hc1 hB1 hW1 hRt hRl hROW hold hG hcell hsp hBl hA hsz ht h hg h2;have hz1:¬((i:Int)=(ls.length:Int)):=by omega
 have hz2:(c:Int)<(ls.length:Int)+1:=by omega
 have hw1:IntKind.i64.wrap ((i:Int)+1)=(i:Int)+1:=by rw [IntKind.wrap_i64];omega
 have hw2:IntKind.i64.wrap ((ls.length:Int)+1)=(ls.length:Int)+1:=by rw [IntKind.wrap_i64];omega
 have hw3:IntKind.i64.wrap ((ls.length:Int)+1 - (i:Int))=(ls.length:Int)+1 - (i:Int):=by rw [IntKind.wrap_i64];omega
 have hb1:(0:Int)<=(i:Int)+1:=by omega
 have htn:((i:Int)+1).toNat=i+1:=by omega
 have hGi:¬(G=i):=by omega
 have hGim:¬(G=i+1):=by omega
 have hb4:¬(c=i):=by omega
 have hin:i<=ls.length:=by omega
 have hic:i<=c:=by omega
 have hb3:(i:Int)<=(ls.length:Int)+1:=by omega
 unfold maxLen at h4 hG2;go_enter func317,ntmps317
 go_wp2_with (first
  | (at_builtin;refine Lib.wpList_append_run _ rfl _ _ _ _ rfl _ _ rfl rfl _ _ (hrz _) ?_)
  | (at_builtin;refine zfc _ rfl _ _ 206 rfl _ _ rfl rfl (hcpA _ _) ?_))
 go_region_law (refine zgl rfl _ _ 206 rfl _ _ (by simp [Act.eval,Act.put]) (by simp [Act.eval,Act.put]) (hcpB _ rfl _ _ _) ?_)
 go_wp2;go_ret;exact⟨_,rfl,HOWN.out,HGR.out,Or.inr ⟨_,rfl,ac _⟩⟩
theorem zkl(base g c g2 i:Nat)(ls:List El)(e:El)(w:World)(hB:base<=w.heap.size)(h:w.ownsRow base 365 6 (.slice (some ⟨g,0,none⟩) ls.length c) ls.length (flat El.cells ls))(h2:Blk w g2 #[I e.s.d.o,I e.s.d.s,I e.s.d.i,I e.s.t,I e.v, .bool e.x] 365)(hne:g2 ≠ g)(hl:ls.length<=1048576)(hi:i<=ls.length):
  Calls prog 317 #[.slice (some ⟨g,0,none⟩) ls.length c,I i, .slice (some ⟨g2,0,none⟩) 1 1] w fun r w'=>InsOk w base (.slice (some ⟨g,0,none⟩) ls.length c) (insL ls i e) r w':=by
 by_cases hlt:i<ls.length
 ·by_cases hc:ls.length+1<=c
  ·exact zp1 base g c g2 i ls e w h h2 hne hl hlt hc
  ·exact zp2 base g c g2 i ls e w hB h h2 hl hlt (by omega)
 ·obtain rfl:i=ls.length:=by omega
  have hc:ls.length<=c:=by
   rcases h.2 with⟨e1,_⟩ | ⟨g',cap',cur,e1,hb,hg,h3,h4,hz,ht⟩
   ·cases e1
   ·cases e1;exact h3
  have:=zss base g c g2 ls e w hB h h2 hl hc;rw [show insL ls ls.length e=ls++ [e] by simp [insL]];exact this
def zd1(s:Stp)(e:El):Bool:=zkj e.s s
def headL(ls:List El)(d:Dt):Nat:=(1+zax (dotIs d) ls).toNat
def ze1(ls:List El)(s:Stp)(d:Dt):Nat:=headL ls d+((ls.drop (headL ls d)).takeWhile (zd1 s)).length
def putL(ls:List El)(x:El)(d:Dt):List El:=insL ls (ze1 ls x.s d) x
theorem zmt(f:El->Bool)(ls:List El): -1<=zax f ls∧zax f ls<ls.length:=by
 unfold zax;split
 ·rename_i k hk
  obtain⟨h,_⟩:=List.findIdx?_eq_some_iff_getElem.1 hk;omega
 ·omega
theorem zp6(ls:List El)(d:Dt):headL ls d<=ls.length:=by
 have:=zmt (dotIs d) ls;unfold headL;omega
theorem zw3(ls:List El)(d:Dt):1+zax (dotIs d) ls=(headL ls d:Int):=by
 have:=zmt (dotIs d) ls;unfold headL;omega
theorem zgk{α:Type}(f:α->Bool):∀(l:List α) (k:Nat),k<=l.length->(∀j (hj:j<l.length),j<k->f l[j]=true)->(∀hk:k<l.length,f l[k]=false)->(l.takeWhile f).length=k
 | [],k,h,_,_=>by simp at h;simp [h]
 | x::l,0,_,_,h=>by
  have:f x=false:=h (by simp);simp [this]
 | x::l,k+1,hk,h1,h2=>by
  have hx:f x=true:=h1 0 (by simp) (by omega);rw [List.takeWhile_cons,hx];simp only [if_true,aJ];rw [zgk f l k (by simpa using hk) (fun j hj hlt=>h1 (j+1) (by simpa using hj) (by omega)) (fun hk'=>h2 (by simpa using hk'))]
theorem zpk(ls:List El)(s:Stp)(d:Dt)(k:Nat)(h0:headL ls d<=k)(hk:k<=ls.length)(h1:∀j (hj:j<ls.length),headL ls d<=j->j<k->zd1 s ls[j]=true)(h2:∀hk:k<ls.length,zd1 s ls[k]=false):ze1 ls s d=k:=by
 unfold ze1
 rw [zgk (zd1 s) (ls.drop (headL ls d)) (k - headL ls d) (by rw [aP];omega) (fun j hj hlt=>by
  rw [aP] at hj;rw [List.getElem_drop]
  exact h1 _ (by omega) (by omega) (by omega)) (fun hk'=>by
  rw [aP] at hk';rw [List.getElem_drop];have:=h2 (by omega);simp only [show headL ls d+(k - headL ls d)=k by omega]
  exact this)]
 omega
theorem zwb(ls:List El)(s:Stp)(d:Dt):ze1 ls s d<=ls.length:=by
 unfold ze1;have h1:=zp6 ls d;have h2:=(List.takeWhile_sublist (zd1 s) (l:=ls.drop (headL ls d))).length_le;rw [aP] at h2;omega
def PutOk(w:World)(p base:Nat)(v:Value)(ls:List El)(e:Ending)(w':World):Prop:=∃v',e= .returned (.tuple #[])∧LsOwn w' p base v' ls∧Tch (fun k=>k=p∨v.ownBlock=some k) w w'∧(v'.ownBlock=v.ownBlock∨∃b,v'.ownBlock=some b∧w.heap.size<=b)
abbrev xdC (w:World) (x:El) (d:Dt):World:=(w.alloc (.cells #[I x.s.d.o,I x.s.d.s,I x.s.d.i,I x.s.t,I x.v, .bool x.x] 365)).alloc (.cells #[I d.o,I d.s,I d.i] 125)
theorem zeg(w:World)(x:El)(d:Dt):Below w.heap.size w (xdC w x d):=((Below.refl _ _).alloc (ac _) _).alloc (by simp) _
theorem zue{w wA w3:World}{p base g c k:Nat}{ls:List El}{x:El}{d:Dt}{v3:Value}(hb:Below w.heap.size w wA)(hT:Tch (fun j=>j=g) wA w3)(hB3:Blk w3 p #[.slice (some ⟨g,0,none⟩) ls.length c] 208)
  (hown:w3.ownsRow base 365 6 v3 (insL ls k x).length (flat El.cells (insL ls k x))) (hat:v3.ownBlock=(Value.slice (some ⟨g,0,none⟩) ls.length c).ownBlock∨∃b,v3.ownBlock=some b∧wA.heap.size<=b) (hpg:p ≠ g) (hpw:p<w.heap.size) (hP:ze1 ls x.s d=k) (hbp:base<=p):
  PutOk w p base (.slice (some ⟨g,0,none⟩) ls.length c) (putL ls x d) (.returned (.tuple #[])) (w3.setCell ⟨p,0,none⟩ v3):=by
 have hs:=hb.size
 have hpb:∀b,v3.ownBlock=some b->b ≠ p:=fun b e=>by
  rcases hat with h | ⟨b',h,hl⟩
  ·rw [e] at h
   have:b=g:=by simpa [Value.ownBlock] using h
   rw [this];exact hpg.symm
  ·rw [e] at h;cases h;omega
 have hrow:(w3.setCell ⟨p,0,none⟩ v3).ownsRow base 365 6 v3 (insL ls k x).length (flat El.cells (insL ls k x)):=
  hown.kept (row:=some p) ⟨rfl,rfl,rfl,by simp,fun j _ hj=>heap_setCell_other _ ⟨p,0,none⟩ j _ (fun e=>hj (by rw [e]))⟩ (by
   cases hv:v3.ownBlock with
   | none=>exact Or.inl rfl
   | some b=>exact Or.inr (fun e=>hpb b hv (by simpa using e)))
 refine⟨v3,rfl,⟨hB3.set 0 _, ?_,hbp⟩, ?_,hat.imp id (fun⟨b,e,h⟩=>⟨b,e,by omega⟩)⟩
 ·unfold putL;rw [hP];exact hrow
 ·refine Tch.setCell ?_ _ _ (Or.inl (Or.inl rfl))
  exact(Tch.below hb).trans hT (fun _ _ h=>h) (fun j _ h=>Or.inr (by rw [h];rfl))
theorem zwk(p base g c:Nat)(x:El)(d:Dt)(ls:List El)(w:World)(hB:base<=w.heap.size)(h:LsOwn w p base (.slice (some ⟨g,0,none⟩) ls.length c) ls)(hl:ls.length<=1048576):
  Calls prog 313 #[.pointer (some ⟨p,0,none⟩),elV x,dotV d] w fun e w'=>PutOk w p base (.slice (some ⟨g,0,none⟩) ls.length c) (putL ls x d) e w':=by
 have HL:Hid (LsOwn w p base (.slice (some ⟨g,0,none⟩) ls.length c) ls):=h;have HX:Hid (Blk (xdC w x d) w.heap.size #[I x.s.d.o,I x.s.d.s,I x.s.d.i,I x.s.t,I x.v, .bool x.x] 365):=Blk.alloc (heap_alloc_new w _) _
 have HA:Hid (At (xdC w x d) (some ⟨g,0,none⟩) (flat El.cells ls)):=by
  obtain⟨a,c',e,_,_,hat⟩:=(HL.out.kept (zeg w x d)).form;cases e
  exact hat
 have hcA:(xdC w x d).cell? ⟨p,0,none⟩=some (.slice (some ⟨g,0,none⟩) ls.length c):=(HL.out.kept (zeg w x d)).blk.cell 0;have hgw:g<w.heap.size:=(h.row.lt g rfl).2;have HPW:Hid (p<w.heap.size):=h.blk.lt;clear h;go_enter func313,ntmps313;go_wp2_with fail
 refine(zle p d (some ⟨g,0,none⟩) c ls (xdC w x d) hcA HA.out hl).mono ?_;rintro e w1 ⟨rfl,hb1⟩;have HB1:Hid (Below w.heap.size w w1):=(zeg w x d).trans (hb1.mono (by simp;omega));have HX1:Hid (Blk w1 w.heap.size #[I x.s.d.o,I x.s.d.s,I x.s.d.i,I x.s.t,I x.v, .bool x.x] 365):=HX.out.kept hb1 HX.out.lt;clear hb1 HX HA hcA;rw [zw3];have hk0:=zp6 ls d;go_wp2_with fail
 go_loopw [6] (fun v wr=>∃k:Nat,headL ls d<=k∧k<=ls.length∧v=I k∧Hid (∀j (hj:j<ls.length),headL ls d<=j->j<k->zd1 x.s ls[j]=true)∧Hid (Below w.heap.size w wr)∧Hid (Blk wr w.heap.size #[I x.s.d.o,I x.s.d.s,I x.s.d.i,I x.s.t,I x.v, .bool x.x] 365)) (fun v _=>ls.length - (intOf v).toNat)
 case atStart=>exact⟨_,ac _,hk0,rfl,fun j hj h1 h2=>absurd h1 (by omega),HB1,HX1⟩
 case round=>
  obtain⟨k,hk1,hk,rfl,HN,HB,HX⟩:=hrel;clear HB1 HX1;have c0:wr.cell? ⟨p,0,none⟩=some (.slice (some ⟨g,0,none⟩) ls.length c):=zaa HB.out (HL.out.blk.cell 0);by_cases hlt:k<ls.length
  ·have HRW:Hid (Rw wr g ls):=(Rw.of_own rfl (HL.out.kept HB.out).row).1
   obtain⟨e0,e1,e2,e3,_,_⟩:=HRW.out.els k hlt;simp only [aV] at e0 e1 e2 e3;have x0:wr.cell? ⟨w.heap.size,0,none⟩=some (I x.s.d.o):=HX.out.cell 0;have x1:wr.cell? ⟨w.heap.size,1,none⟩=some (I x.s.d.s):=HX.out.cell 1;have x2:wr.cell? ⟨w.heap.size,2,none⟩=some (I x.s.d.i):=HX.out.cell 2;have x3:wr.cell? ⟨w.heap.size,3,none⟩=some (I x.s.t):=HX.out.cell 3;have HLT:Hid (zd1 x.s ls[k]=zkj ls[k].s x.s):=rfl;have hki:(k:Int)<ls.length:=by omega
   generalize ls[k].s=es at *
   go_wp2_with fail
   go_region_held3 (fun w'=>w'.cell? ⟨p,0,none⟩=some (.slice (some ⟨g,0,none⟩) ls.length c)∧w'.cell? ⟨g,k*6,none⟩=some (I es.d.o)∧w'.cell? ⟨g,k*6+1,none⟩=some (I es.d.s)∧w'.cell? ⟨g,k*6+2,none⟩=some (I es.d.i)∧w'.cell? ⟨g,k*6+3,none⟩=some (I es.t)∧w'.cell? ⟨w.heap.size,0,none⟩=some (I x.s.d.o)∧w'.cell? ⟨w.heap.size,1,none⟩=some (I x.s.d.s)∧w'.cell? ⟨w.heap.size,2,none⟩=some (I x.s.d.i)∧w'.cell? ⟨w.heap.size,3,none⟩=some (I x.s.t)) (first | go_keep | (refine⟨zaa hb0 ?_,zaa hb0 ?_,zaa hb0 ?_,zaa hb0 ?_,zaa hb0 ?_,zaa hb0 ?_,zaa hb0 ?_,zaa hb0 ?_,zaa hb0 ?_⟩<;>go_keep))
    (first | (go_at_call 238;refine(zwo es x.s _).mono ?_;rintro e w1 ⟨rfl,hb0⟩))
   have HBA1:Hid (Below w.heap.size w w1):=HB.out.trans ((Below.refl _ _).drew.trans hb0 |>.mono HB.out.size);have HXA1:Hid (Blk w1 w.heap.size #[I x.s.d.o,I x.s.d.s,I x.s.d.i,I x.s.t,I x.v, .bool x.x] 365):=HX.out.kept ((Below.refl _ _).drew.trans hb0) HX.out.lt;clear HB HX c0 hb0;generalize zkj es x.s=bl at *
   cases bl
   ·have HP:Hid (ze1 ls x.s d=k):=zpk ls x.s d k hk1 hk HN.out (fun _=>HLT.out)
    have HBA:=HBA1;have HXA:=HXA1;clear HBA1 HXA1;generalize w1=wA at *
    have HLA:Hid (LsOwn wA p base (.slice (some ⟨g,0,none⟩) ls.length c) ls):=HL.out.kept HBA.out;have hsA:=HBA.out.size;have cA:wA.cell? ⟨p,0,none⟩=some (.slice (some ⟨g,0,none⟩) ls.length c):=HLA.out.blk.cell 0;have y0:wA.cell? ⟨w.heap.size,0,none⟩=some (I x.s.d.o):=HXA.out.cell 0;have y1:wA.cell? ⟨w.heap.size,1,none⟩=some (I x.s.d.s):=HXA.out.cell 1;have y2:wA.cell? ⟨w.heap.size,2,none⟩=some (I x.s.d.i):=HXA.out.cell 2;have y3:wA.cell? ⟨w.heap.size,3,none⟩=some (I x.s.t):=HXA.out.cell 3;have y4:wA.cell? ⟨w.heap.size,4,none⟩=some (I x.v):=HXA.out.cell 4;have y5:wA.cell? ⟨w.heap.size,5,none⟩=some (.bool x.x):=HXA.out.cell 5;have hrowA:wA.ownsRow base 365 6 (.slice (some ⟨g,0,none⟩) ls.length c) ls.length (flat El.cells ls):=HLA.out.row;have hpA:p ≠ g:=HLA.out.ne;go_wp2_with fail
    obtain⟨W3,hW3⟩:∃W3,W3=wA.drew.alloc (.cells #[I x.s.d.o,I x.s.d.s,I x.s.d.i,I x.s.t,I x.v, .bool x.x] 365):=⟨_,rfl⟩
    have hr3:W3.ownsRow base 365 6 (.slice (some ⟨g,0,none⟩) ls.length c) ls.length (flat El.cells ls):=by rw [hW3];exact(hrowA.drew).alloc _
    have hx3:Blk W3 wA.heap.size #[I x.s.d.o,I x.s.d.s,I x.s.d.i,I x.s.t,I x.v, .bool x.x] 365:=by rw [hW3];exact heap_alloc_new wA.drew _
    have hT3:Tch (fun j=>j=g) wA W3:=by rw [hW3];exact(Tch.refl _ wA).drew.alloc _
    have HIN:Hid (Calls prog 317 #[.slice (some ⟨g,0,none⟩) ls.length c,I k, .slice (some ⟨wA.heap.size,0,none⟩) 1 1] W3 fun r w'=>InsOk W3 base (.slice (some ⟨g,0,none⟩) ls.length c) (insL ls k x) r w'):=zkl base g c wA.heap.size k ls x W3 (by have:=hT3.size;omega) hr3 hx3 (by omega) hl hk;have HT3:Hid (Tch (fun j=>j=g) wA W3):=hT3;have HBL:Hid (Blk wA p #[.slice (some ⟨g,0,none⟩) ls.length c] 208):=HLA.out.blk;clear hr3 hx3 hT3 hrowA;rw [hW3] at HIN HT3;clear hW3 W3;have cA2:(wA.alloc (.cells #[I x.s.d.o,I x.s.d.s,I x.s.d.i,I x.s.t,I x.v, .bool x.x] 365)).cell? ⟨p,0,none⟩=some (.slice (some ⟨g,0,none⟩) ls.length c):=(HBL.out.alloc _).cell 0;clear hsA hgw hk0;go_region_law ((go_simp;go_at_call 317;refine HIN.out.mono ?_;rintro e w3 ⟨v3,rfl,hown3,hgr3,hat3⟩;obtain⟨a3,m3,cc3,rfl⟩:=zcd hown3;have HT4:Hid (Tch (fun j=>j=g) wA w3):=HT3.out.trans (Tch.grown hgr3) (fun _ _ h=>h) (fun j _ h=>by simpa [Value.ownBlock] using h.symm);have HOW:Hid (w3.ownsRow base 365 6 (.slice a3 m3 cc3) (insL ls k x).length (flat El.cells (insL ls k x))):=hown3;have HAT:Hid ((Value.slice a3 m3 cc3).ownBlock=(Value.slice (some ⟨g,0,none⟩) ls.length c).ownBlock∨∃b,(Value.slice a3 m3 cc3).ownBlock=some b∧wA.heap.size<=b):=hat3.imp id (fun⟨b,e,h⟩=>⟨b,e,by simp at h;omega⟩);have HB3:Hid (Blk w3 p #[.slice (some ⟨g,0,none⟩) ls.length c] 208):=HT4.out.blk HBL.out hpA;have c3:w3.cell? ⟨p,0,none⟩=some (.slice (some ⟨g,0,none⟩) ls.length c):=HB3.out.cell 0;have z3:w3.frozen? ⟨p,0,none⟩=false:=HB3.out.frozen 0;clear hown3 hgr3 hat3))
    all_goals
     (go_end0
      exact zue HBA.out HT4.out HB3.out HOW.out HAT.out hpA HPW.out HP.out HL.out.le)
   ·go_wp2_with fail
    go_roundw
    case rel=>
     refine⟨k+1,by omega,hlt,by go_num,fun j hj h1 h2=> ?_,HBA1,HXA1⟩;by_cases hjk:j=k
     ·subst hjk;exact HLT.out
     ·exact HN.out j hj h1 (by omega)
    case measure=>simp [intOf];omega
  ·have HP:Hid (ze1 ls x.s d=k):=zpk ls x.s d k hk1 hk HN.out (fun h=>absurd h hlt)
   go_wp2_with fail
   go_quiet (fail)
   have HBA:Hid (Below w.heap.size w (wr.drewN nq)):=za7 HB.out nq;have HXA:Hid (Blk (wr.drewN nq) w.heap.size #[I x.s.d.o,I x.s.d.s,I x.s.d.i,I x.s.t,I x.v, .bool x.x] 365):=HX.out;clear HB HX c0;generalize wr.drewN nq=wA at *
   have HLA:Hid (LsOwn wA p base (.slice (some ⟨g,0,none⟩) ls.length c) ls):=HL.out.kept HBA.out;have hsA:=HBA.out.size;have cA:wA.cell? ⟨p,0,none⟩=some (.slice (some ⟨g,0,none⟩) ls.length c):=HLA.out.blk.cell 0;have y0:wA.cell? ⟨w.heap.size,0,none⟩=some (I x.s.d.o):=HXA.out.cell 0;have y1:wA.cell? ⟨w.heap.size,1,none⟩=some (I x.s.d.s):=HXA.out.cell 1;have y2:wA.cell? ⟨w.heap.size,2,none⟩=some (I x.s.d.i):=HXA.out.cell 2;have y3:wA.cell? ⟨w.heap.size,3,none⟩=some (I x.s.t):=HXA.out.cell 3;have y4:wA.cell? ⟨w.heap.size,4,none⟩=some (I x.v):=HXA.out.cell 4;have y5:wA.cell? ⟨w.heap.size,5,none⟩=some (.bool x.x):=HXA.out.cell 5;have hrowA:wA.ownsRow base 365 6 (.slice (some ⟨g,0,none⟩) ls.length c) ls.length (flat El.cells ls):=HLA.out.row;have hpA:p ≠ g:=HLA.out.ne;go_wp2_with fail
   obtain⟨W3,hW3⟩:∃W3,W3=wA.drew.alloc (.cells #[I x.s.d.o,I x.s.d.s,I x.s.d.i,I x.s.t,I x.v, .bool x.x] 365):=⟨_,rfl⟩
   have hr3:W3.ownsRow base 365 6 (.slice (some ⟨g,0,none⟩) ls.length c) ls.length (flat El.cells ls):=by rw [hW3];exact(hrowA.drew).alloc _
   have hx3:Blk W3 wA.heap.size #[I x.s.d.o,I x.s.d.s,I x.s.d.i,I x.s.t,I x.v, .bool x.x] 365:=by rw [hW3];exact heap_alloc_new wA.drew _
   have hT3:Tch (fun j=>j=g) wA W3:=by rw [hW3];exact(Tch.refl _ wA).drew.alloc _
   have HIN:Hid (Calls prog 317 #[.slice (some ⟨g,0,none⟩) ls.length c,I k, .slice (some ⟨wA.heap.size,0,none⟩) 1 1] W3 fun r w'=>InsOk W3 base (.slice (some ⟨g,0,none⟩) ls.length c) (insL ls k x) r w'):=zkl base g c wA.heap.size k ls x W3 (by have:=hT3.size;omega) hr3 hx3 (by omega) hl hk;have HT3:Hid (Tch (fun j=>j=g) wA W3):=hT3;have HBL:Hid (Blk wA p #[.slice (some ⟨g,0,none⟩) ls.length c] 208):=HLA.out.blk;clear hr3 hx3 hT3 hrowA;rw [hW3] at HIN HT3;clear hW3 W3;have cA2:(wA.alloc (.cells #[I x.s.d.o,I x.s.d.s,I x.s.d.i,I x.s.t,I x.v, .bool x.x] 365)).cell? ⟨p,0,none⟩=some (.slice (some ⟨g,0,none⟩) ls.length c):=(HBL.out.alloc _).cell 0;clear hsA hgw hk0;go_region_law ((go_simp;go_at_call 317;refine HIN.out.mono ?_;rintro e w3 ⟨v3,rfl,hown3,hgr3,hat3⟩;obtain⟨a3,m3,cc3,rfl⟩:=zcd hown3;have HT4:Hid (Tch (fun j=>j=g) wA w3):=HT3.out.trans (Tch.grown hgr3) (fun _ _ h=>h) (fun j _ h=>by simpa [Value.ownBlock] using h.symm);have HOW:Hid (w3.ownsRow base 365 6 (.slice a3 m3 cc3) (insL ls k x).length (flat El.cells (insL ls k x))):=hown3;have HAT:Hid ((Value.slice a3 m3 cc3).ownBlock=(Value.slice (some ⟨g,0,none⟩) ls.length c).ownBlock∨∃b,(Value.slice a3 m3 cc3).ownBlock=some b∧wA.heap.size<=b):=hat3.imp id (fun⟨b,e,h⟩=>⟨b,e,by simp at h;omega⟩);have HB3:Hid (Blk w3 p #[.slice (some ⟨g,0,none⟩) ls.length c] 208):=HT4.out.blk HBL.out hpA;have c3:w3.cell? ⟨p,0,none⟩=some (.slice (some ⟨g,0,none⟩) ls.length c):=HB3.out.cell 0;have z3:w3.frozen? ⟨p,0,none⟩=false:=HB3.out.frozen 0;clear hown3 hgr3 hat3))
   all_goals
    (go_end0
     exact zue HBA.out HT4.out HB3.out HOW.out HAT.out hpA HPW.out HP.out HL.out.le)
