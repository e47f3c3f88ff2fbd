import Derived.Test.YtfmcngncaffloabGreatDoorJ13SoL
import Derived.Test.YtfmcngncaffloabGreatDoorJ41KeD
import Derived.Test.YtfmcngncaffloabGreatDoorJ11HpA
import Derived.Deep.AppendLies
set_option maxHeartbeats 3200000
namespace Go.Proofs.YtfmcngncaffloabGreatDoor
open Go.RowKit Go.Sort Go.Proofs.Tryz Wv
set_option maxRecDepth 100000
theorem zkv(ds:List Dt):flatK zac 3 ds.toArray=(flat zac ds).toArray:=by
 have hl:=zan zac 3 zat ds;apply Array.ext
 ·simp [hl]
 ·intro t h1 h2
  have ht:t<ds.length*3:=by simpa using h1
  have hk:t / 3<ds.length:=by omega
  have hg:=zao zac 3 zat ds (t / 3) hk (t % 3) (by omega);rw [show t / 3*3+t % 3=t by omega] at hg;have e1:(flatK zac 3 ds.toArray)[t]! =(zac ds.toArray[t / 3]!)[t % 3]! :=get_flatK zac 3 ds.toArray t (by simpa using ht);rw [getElem!_pos _ t h1] at e1;rw [e1];have e2:ds.toArray[t / 3]! =ds[t / 3]:=by simp [hk]
  rw [e2];have h3:t % 3<(zac ds[t / 3]).length:=by rw [zat];omega
  rw [ag h3] at hg;rw [getElem!_pos (zac ds[t / 3]) (t % 3) h3];have h4:t<(flat zac ds).length:=by omega
  rw [ag h4] at hg;simpa using (Option.some.inj hg).symm
theorem holdsF{w:World}{g:Nat}{cur:Array Value}{e:TypeId}{l:List Value}(hb:w.heap[g]?=some (.cells cur e (0,0)))(ht:cur.toList.take l.length=l):Holds id w g 0 l.toArray:=by
 intro j hj;have hj':j<l.length:=by simpa using hj
 refine⟨?_,by simp [World.frozen?,hb]⟩;have h1:(cur.toList.take l.length)[j]?=l[j]?:=by rw [ht]
 rw [aL hj'] at h1;simp only [World.cell?,hb,aV];simp only [Option.isSome_none,Bool.false_eq_true,if_false];rw [←Array.getElem?_toList,h1];simp [hj']
theorem heapF{w:World}{g n:Nat}{os:Array Obj}{cur:Array Value}{e:TypeId}{fr:Nat×Nat}(d:Array Value)(hb:w.heap[g]?=some (.cells cur e fr)):
  (grow (putRow id (Sort.ahead w n) g 0 d) os).heap[g]?=some (.cells (putCells id 0 d cur) e fr):=by
 have hg:g<w.heap.size:=(am.1 hb).1;rw [heap_grow_old _ _ (by simpa [putRow,mapBlock,Sort.ahead] using hg)];simp [putRow,mapBlock,Sort.ahead,Array.getElem?_modify,hb,onCells]
theorem grownF{w:World}{g n:Nat}{os:Array Obj}(d:Array Value):w.grownBy (grow (putRow id (Sort.ahead w n) g 0 d) os) (some g):=by
 refine⟨rfl,rfl,rfl,by simp [putRow,mapBlock,Sort.ahead],fun k hk hne=> ?_⟩;rw [heap_grow_old _ _ (by simpa [putRow,mapBlock,Sort.ahead] using hk)];have:g ≠ k:=fun e=>hne (by rw [e])
 simp [putRow,mapBlock,Sort.ahead,Array.getElem?_modify,this]
theorem takeF(cur:Array Value)(ts:List Value)(h:ts.length<=cur.size):(putCells id 0 ts.toArray cur).toList.take ts.length=ts:=by
 apply List.ext_getElem?;intro j;by_cases hj:j<ts.length
 ·rw [aL hj,Array.getElem?_toList]
  simp [putCells,hj,show j<cur.size by omega]
 ·rw [List.getElem?_take_eq_none (by omega),aF (by omega)]
theorem zni(base:Nat)(v:Value)(ds:List Dt)(w:World)(h:w.ownsRow base 125 3 v ds.length (flat zac ds))(hsz:ds.length<=1048576):
  Calls prog 270 #[v, .func (.func 208) #[] #[]] w fun e w'=>e= .returned (.tuple #[])∧w'.ownsRow base 125 3 v ds.length (flat zac (sortD ds))∧w.grownBy w' v.ownBlock:=by
 have hlen:=zan zac 3 zat ds;have hlen2:=zan zac 3 zat (sortD ds);rw [zek] at hlen2;rcases h.2 with⟨rfl,h0⟩ | ⟨g,cap,cur,rfl,hbase,hgb,r1,r2,r3,r4⟩
 ·have hd:ds= []:=aw h0
  subst hd;refine(AnyF.slices_SortFunc_none Tryz.sortDot none 0 (.func (.func 208) #[] #[]) w).mono ?_;rintro e w' ⟨rfl,rfl⟩;exact⟨rfl,h,World.grownBy.refl _ _⟩
 ·have eg:∀args w,(callFunc 208 args).run prog w= .ok (.enter 208 args) w:=enters_of func208 (by kernel_rfl) rfl
  have hH:HoldsK zac 3 w g 0 ds.toArray:=by
   unfold HoldsK;rw [zkv];refine holdsF hgb ?_;rw [hlen];exact r4
  have hcmp:CmpLays prog 208 #[] zac 3 cmpD g 0 ds.toArray.size w:=fun m os dk hs x y=>zk5 x y _
  have hc:=AnyQ.slices_SortFunc_total Tryz.sortDot 3 Tryz.isAgg125 Tryz.sizeOf125 zac (fun _=>rfl) (fun x v hv=>by simp [zac] at hv;rcases hv with rfl | rfl | rfl<;>rfl) cmpD swoD 208 #[] g 0 cap ds.toArray w eg hcmp hH (am.1 hgb).1 (by simp;omega) totD;change Calls prog 270 _ _ _ at hc;rw [List.size_toArray] at hc;refine hc.mono ?_;rintro e w' ⟨rfl,n,os,rfl⟩;refine⟨rfl, ?_, ?_⟩
  ·rw [zpq]
   unfold sortWorldK putRowK;rw [zkv];refine⟨by rw [hlen2], .inr ⟨g,cap,_,rfl,hbase,heapF _ hgb,r1,r2,by simp [putCells,r3], ?_⟩⟩;rw [←hlen2];exact takeF cur _ (by omega)
  ·exact grownF _
open Go.RowKit Go.Sort Go.Proofs.Tryz Wv
set_option maxRecDepth 100000
theorem zz2(b:Nat)(w:World):Calls prog 265 #[.map (some b)] w fun e w'=>e= .returned (.func (.func 271) #[] #[.pointer (some ⟨w.heap.size,0,none⟩)])∧w'=w.alloc (.cells #[.map (some b)] 200):=by
 go_enter func265,ntmps265;go_wp2;go_ret;exact⟨rfl,rfl⟩
theorem zrn(b:Nat)(w:World):Calls prog 254 #[.map (some b)] w fun e w'=>e= .returned (.func (.func 261) #[] #[.pointer (some ⟨w.heap.size,0,none⟩)])∧w'=w.alloc (.cells #[.map (some b)] 200):=by
 go_enter func254,ntmps254;go_wp2;go_ret;exact⟨rfl,rfl⟩
theorem zq5(b:Nat)(m:Lv)(Bm:Nat)(w:World)(hBm:Bm<w.heap.size)(hm:w.cell? ⟨Bm,0,none⟩=some (.map (some b)))(hown:MpAt w b m)(hl:m.length<=1048576):
  Calls prog 269 #[.func (.func 271) #[] #[.pointer (some ⟨Bm,0,none⟩)]] w fun e w'=>∃(v:Value) (ss:Lv),e= .returned v∧ss.Perm m∧w'.ownsRow w.heap.size 125 3 v ss.length (flat zac (ss.map (·.1)))∧(v= .slice none 0 0↔ss= [])∧Below w.heap.size w w':=
 (callsIn_wide (n:=6)).1 (ztv Fence.wide 6 trivial trivial rfl (by omega) _ _ trivial (enters_of func271 (by kernel_rfl) rfl) (fun ss=>ss.Perm m) m.length (by unfold maxLen;omega) (by omega) w (zso Fence.wide _ trivial rfl (by omega) Bm b m w hBm hm hown))
theorem zjy(b:Nat)(m:Lv)(Bm:Nat)(w:World)(hBm:Bm<w.heap.size)(hm:w.cell? ⟨Bm,0,none⟩=some (.map (some b)))(hown:MpAt w b m)(hl:m.length<=1048576):
  Calls prog 264 #[.func (.func 271) #[] #[.pointer (some ⟨Bm,0,none⟩)], .func (.func 208) #[] #[]] w fun e w'=>∃(v:Value),e= .returned v∧w'.ownsRow w.heap.size 125 3 v m.length (flat zac (sortD (m.map (·.1))))∧Below w.heap.size w w':=by
 have hcol:=zq5 b m Bm w hBm hm hown hl;clear hm hown;go_enter func264,ntmps264;go_wp2_with (go_at_call 269;refine hcol.mono ?_;rintro e w1 ⟨v,ss,rfl,hp,hrow,hnil,hb⟩)
 have hlen:ss.length=m.length:=hp.length_eq;have hso:=zni w.heap.size v (ss.map (·.1)) w1 (by rw [av];exact hrow) (by rw [av];omega);have hlt:=hrow.lt;go_wp2_with (go_at_call 270;refine hso.mono ?_;rintro e w2 ⟨rfl,hrow2,hg2⟩)
 go_ret;refine⟨v,rfl, ?_,hb.grown hg2 hb.size (fun k hk=>(hlt k hk).1)⟩;have hs:sortD (ss.map (·.1))=sortD (m.map (·.1)):=zql ((zb5 _).trans (hp.map _)) (zdh _);rw [hs,av,hlen] at hrow2;exact hrow2
theorem zkz(b:Nat)(m:Lv)(w:World)(hown:MpAt w b m)(hl:m.length<=1048576):
  Calls prog 257 #[.map (some b)] w fun e w'=>∃(v:Value),e= .returned v∧w'.ownsRow w.heap.size 125 3 v m.length (flat zac (sortD (m.map (·.1))))∧Below w.heap.size w w':=by
 have hso:=zjy b m w.heap.size (w.alloc (.cells #[.map (some b)] 200)) (by simp) (by simp) (hown.same (Below.heap_alloc _ _ b hown.lt)) hl;clear hown;go_enter func257,ntmps257;go_wp2_with (first | (go_at_call 265;refine(zz2 b w).mono ?_;rintro e w1 ⟨rfl,rfl⟩) | (go_at_call 264;refine hso.mono ?_;rintro e w2 ⟨v,rfl,hrow,hb⟩))
 go_ret;exact⟨v,rfl,ownsRow_base_a hrow (by simp),((Below.refl _ w).alloc (ac _) _).trans (hb.mono (by simp))⟩
theorem sortsI(m:Nat):AnyZI.SortsIn prog Tryz.sortedI_ren Fence.wide m:=
 ⟨fun blk off cap ss W hH hblk hsz=>callsIn_wide.2 (AnyM.slices_Sort_int Tryz.sortI blk off cap ss W hH hblk hsz),
  fun p cap W=>callsIn_wide.2 (AnyM.slices_Sort_int_none Tryz.sortI p cap W)⟩
theorem zo1(b:Nat)(m:Lv)(Bm:Nat)(w:World)(hBm:Bm<w.heap.size)(hm:w.cell? ⟨Bm,0,none⟩=some (.map (some b)))(hown:MpAt w b m)(hl:m.length<=1048576):
  Calls prog 253 #[.func (.func 261) #[] #[.pointer (some ⟨Bm,0,none⟩)]] w fun e w'=>∃(v:Value),e= .returned v∧w'.ownsRow w.heap.size 3 1 v m.length ((sortI (m.map (·.2))).map I)∧Below w.heap.size w w':=by
 have cS:=AnyZI.sorted_in Tryz.sortedI Fence.wide 6 trivial trivial trivial trivial rfl (by omega) (sortsI _) (enters_of func260 (by kernel_rfl) rfl) 261 #[.pointer (some ⟨Bm,0,none⟩)] trivial (enters_of func261 (by kernel_rfl) rfl) _ _ (by unfold maxLen;omega) (by omega) w (znf Fence.wide _ trivial rfl (by omega) Bm b m w hBm hm hown);change CallsIn _ _ prog 253 _ _ _ at cS;refine((callsIn_wide (n:=6)).1 cS).mono ?_;rintro e w' ⟨v,ss,rfl,hp,hrow,hnil,hb⟩;rw [zpp hp,hp.length_eq,av] at hrow;exact⟨v,rfl,hrow,hb⟩
open Go.RowKit Go.Sort Go.Proofs.Tryz Wv
set_option maxRecDepth 100000
def compA(p:Int):List Int->List Int
 | []=> []
 | x::r=>if x=p then compA x r else x::compA x r
def compI:List Int->List Int
 | []=> []
 | x::r=>x::compA x r
theorem zi7(d:Array Int):∀n i,1<=i->i+n=d.size->((List.range' i n).filter (Lib.keeps d)).map (d[·]!)=compA d[i - 1]! (d.toList.drop i)
 | 0,i,_,hs=>by
  rw [List.drop_eq_nil_of_le (by simp;omega)];simp [compA]
 | n+1,i,hi,hs=>by
  have hlt:i<d.toList.length:=by simp;omega
  have ih:=zi7 d n (i+1) (by omega) (by omega);rw [Nat.add_sub_cancel] at ih;rw [List.range'_succ,List.drop_eq_getElem_cons hlt,compA]
  have e1:d.toList[i]=d[i]! :=by
   rw [getElem!_pos d i (by simpa using hlt)];simp
  rw [e1,←ih]
  have hk:Lib.keeps d i=decide (d[i]! ≠ d[i - 1]!):=by
   unfold Lib.keeps;have:¬i=0:=by omega
   simp [this]
  by_cases hq:d[i]! =d[i - 1]!
  ·rw [aA hq,List.filter_cons_of_neg (by rw [hk];simp [hq])]
  ·rw [ap hq,List.filter_cons_of_pos (by rw [hk];simp [hq])]
   rfl
theorem zts(zs:List Int):Lib.compact zs=compI zs:=by
 unfold Lib.compact Lib.compactUpTo;cases zs with
 | nil=>rfl
 | cons x r=>
  have h:=zi7 (x::r).toArray r.length 1 (ac _) (by simp;omega);rw [aJ,List.range_eq_range',List.range'_succ,List.filter_cons_of_pos (by simp [Lib.keeps]),List.map_cons,h];simp [compI]
theorem heapI{w:World}{g n:Nat}{cur:Array Value}{e:TypeId}{fr:Nat×Nat}(d:Array Int)(hb:w.heap[g]?=some (.cells cur e fr)):
  (putRow (Value.int .i64) (Sort.ahead w n) g 0 d).heap[g]?=some (.cells (putCells (Value.int .i64) 0 d cur) e fr):=by
 simp [putRow,mapBlock,Sort.ahead,Array.getElem?_modify,hb,onCells]
theorem grownI{w:World}{g n:Nat}(d:Array Int):w.grownBy (putRow (Value.int .i64) (Sort.ahead w n) g 0 d) (some g):=by
 refine⟨rfl,rfl,rfl,by simp [putRow,mapBlock,Sort.ahead],fun k hk hne=> ?_⟩;have:g ≠ k:=fun e=>hne (by rw [e])
 simp [putRow,mapBlock,Sort.ahead,Array.getElem?_modify,this]
theorem takeI(cur:Array Value)(ts zs:List Int)(h:ts.length<=cur.size):(putCells (Value.int .i64) 0 (ts++zs).toArray cur).toList.take ts.length=ts.map I:=by
 apply List.ext_getElem?;intro j;by_cases hj:j<ts.length
 ·rw [aL hj,Array.getElem?_toList]
  have h1:j<cur.size:=by omega
  have h2:j<ts.length+zs.length:=by omega
  simp [putCells,h1,h2,hj,List.getElem?_append]
 ·rw [List.getElem?_take_eq_none (by omega),aF (by simp;omega)]
theorem zmz(p:Int):∀l,(compA p l).length<=l.length
 | []=>ac _
 | x::r=>by
  unfold compA;have:=zmz x r;split<;>simp<;>omega
theorem zmy:∀l,(compI l).length<=l.length
 | []=>ac _
 | x::r=>by
  have:=zmz x r;simp [compI];omega
theorem zq1(base:Nat)(v:Value)(zs:List Int)(w:World)(h:w.ownsRow base 3 1 v zs.length (zs.map I))(hl:zs.length<=1048576):
  Calls prog 252 #[v] w fun e w'=>∃v',e= .returned v'∧w'.ownsRow base 3 1 v' (compI zs).length ((compI zs).map I)∧w.grownBy w' v.ownBlock:=by
 rcases h.2 with⟨rfl,h0⟩ | ⟨g,cap,cur,rfl,hbase,hgb,r1,r2,r3,r4⟩
 ·have hd:zs= []:=aw h0
  subst hd;refine(Any.slices_Compact_int_empty Tryz.compactI none 0 w).mono ?_;rintro e w' ⟨rfl,rfl⟩;exact⟨_,rfl,h,World.grownBy.refl _ _⟩
 ·have hH:Holds (Value.int .i64) w g 0 zs.toArray:=by
   intro j hj;have hj':j<zs.length:=by simpa using hj
   refine⟨?_,by simp [World.frozen?,hgb]⟩;have h1:(cur.toList.take (zs.length*1))[j]?=(zs.map I)[j]?:=by rw [r4]
   rw [aL (by omega)] at h1;simp only [World.cell?,hgb,aV];simp only [Option.isSome_none,Bool.false_eq_true,if_false];rw [←Array.getElem?_toList,h1];simp [hj']
  have hc:=Any.slices_Compact_int Tryz.compactI g 0 cap zs w hH (by omega) r1;change Calls prog 252 _ _ _ at hc;rw [zts] at hc;have hcl:=zmy zs;refine hc.mono ?_;rintro e w' ⟨rfl,q,rfl⟩;refine⟨_,rfl,⟨by simp, .inr ⟨g,cap,_,rfl,hbase,heapI _ hgb,by omega,r2,by simp [putCells,r3], ?_⟩⟩,grownI _⟩;rw [Nat.mul_one];exact takeI cur _ _ (by omega)
theorem zoy(p b:Nat)(m:Lv)(w:World)(h:Blk w p #[.map (some b)] 202)(hown:MpAt w b m)(hl:m.length<=1048576):
  Calls prog 247 #[.pointer (some ⟨p,0,none⟩)] w fun e w'=>ze9 w (compI (sortI (m.map (·.2)))) e w':=by
 have c0:w.cell? ⟨p,0,none⟩=some (.map (some b)):=h.cell 0;have hso:=zo1 b m w.heap.size (w.alloc (.cells #[.map (some b)] 200)) (by simp) (by simp) (hown.same (Below.heap_alloc _ _ b hown.lt)) hl;have hlen:(sortI (m.map (·.2))).length=m.length:=by rw [(zdt _).length_eq,av]
 clear hown h;go_enter func247,ntmps247;go_wp2_with (first | (go_at_call 254;refine(zrn b w).mono ?_;rintro e w1 ⟨rfl,rfl⟩) | (go_at_call 253;refine hso.mono ?_;rintro e w2 ⟨v,rfl,hrow,hb⟩) | (go_at_call 252;refine(zq1 _ v _ w2 (by rw [hlen];exact hrow) (by omega)).mono ?_;rintro e w3 ⟨v3,rfl,hrow3,hg3⟩))
 go_ret;have hb1:=hb.grown hg3 hb.size (fun k e=>(hrow.lt k e).1);exact⟨⟨v3,rfl,znv hrow3 (by simp)⟩,((Below.refl _ w).alloc (ac _) _).trans (hb1.mono (by simp))⟩
open Go.RowKit Go.Sort Go.Proofs.Tryz Wv
set_option maxRecDepth 100000
def rvals(m:Lv):List Int:=(sortD (m.map (·.1))).map (getD m)
theorem zj9{w:World}{base:Nat}{e:TypeId}{size n:Nat}{v:Value}{xs:List Value}(h:w.ownsRow base e size v n xs):∃a c,v= .slice a n c∧At w a xs∧(a=none∨∃p q,a=some ⟨p,q,none⟩):=by
 rcases h.2 with⟨rfl,h0⟩ | ⟨g,cap,cur,rfl,_⟩
 ·refine⟨none,0,by rw [h0], ?_, .inl rfl⟩
  intro j u hj;have:=h.1;rw [h0,Nat.zero_mul] at this;rw [aw this] at hj;simp at hj
 ·exact⟨_,_,rfl,zsc h, .inr ⟨_,_,rfl⟩⟩
theorem zo6(p b:Nat)(m:Lv)(w:World)(h:Blk w p #[.map (some b)] 204)(hown:MpAt w b m)(hl:m.length<=1048576):
  Calls prog 305 #[.pointer (some ⟨p,0,none⟩)] w fun e w'=>ze9 w (rvals m) e w':=by
 have c0:w.cell? ⟨p,0,none⟩=some (.map (some b)):=h.cell 0;have HP:Hid (Blk w p #[.map (some b)] 204):=h;have HM:Hid (MpAt w b m):=hown;have hds:=zkz b m w hown hl;clear h hown;go_enter func305,ntmps305;obtain⟨i,HI⟩:∃i,Hid (prog.info? 3=some i∧i.zero=some (.int .i64 0)∧i.size=1∧i.bytes=8):=by obtain⟨i,h⟩:=info_parts zkn;exact⟨i,h⟩
 go_wp2_with fail
 refine hds.mono ?_;rintro e w1 ⟨v,rfl,hrow,hb1⟩;obtain⟨a1,c1,rfl,hA,hform⟩:=zj9 hrow;have HB1:Hid (Below w.heap.size w w1):=hb1;have HA:Hid (At w1 a1 (flat zac (sortD (m.map (·.1))))):=hA;have hlen:m.length=(sortD (m.map (·.1))).length:=by rw [zek,av]
 have HV:Hid (rvals m=(sortD (m.map (·.1))).map (getD m)):=rfl;have HM1:Hid (MpAt w1 b m):=HM.out.below hb1;have HP1:Hid (Blk w1 p #[.map (some b)] 204):=HP.out.kept hb1 HP.out.lt;have hl2:(sortD (m.map (·.1))).length<=1048576:=by omega
 rw [hlen];clear hlen hA hb1 hrow hds hform c0 HM HP hl;generalize hstd:sortD (m.map (·.1))=st at *
 clear hstd;have O1:Hid (w1.ownsRow w1.heap.size 3 1 (.slice none 0 0) 0 (([]:List Int).map I)):=⟨rfl, .inl ⟨rfl,rfl⟩⟩
 go_wp2_with fail
 go_loopw [3,12] (fun v x wr=>∃k:Nat,k<=st.length∧x=I k∧Hid (wr.ownsRow w1.heap.size 3 1 v k (((st.take k).map (getD m)).map I))∧Hid (Below w1.heap.size w1 wr)) (fun _ x _=>st.length - (intOf x).toNat)
 case atStart=>exact⟨0,az _,rfl,O1,Below.refl _ _⟩
 case round=>
  obtain⟨k,hk,rfl,HO,HB⟩:=hrel;clear O1;by_cases hlt:k<st.length
  ·obtain⟨p2,q2,rfl,hp2,hE⟩:=zhs HA.out (by omega)
   obtain⟨e0',e1',e2'⟩:=hE k hlt;have e0:=zaa HB.out e0';have e1:=zaa HB.out e1';have e2:=zaa HB.out e2';clear hE e0' e1' e2'
   have HTK:Hid (((st.take (k+1)).map (getD m)).map I=((st.take k).map (getD m)).map I++ [I (getD m st[k])]):=by
    show _=_;rw [aC hlt,aO,aO];rfl
   generalize st[k]=d at *
   generalize ((st.take k).map (getD m)).map I=pre at *
   have hki:(k:Int)<st.length:=by omega
   have n1:k+1<=maxLen:=by unfold maxLen;omega
   have n2:(k+1)*8<=140737488355328:=by omega
   have hw1:w1.heap.size<=wr.heap.size:=HB.out.size;obtain⟨wa,hwa⟩:∃wa,wr.alloc (.cells #[I d.o,I d.s,I d.i] 125)=wa:=⟨_,rfl⟩
   have HBa:Hid (Below w1.heap.size w1 wa):=by rw [←hwa];exact HB.out.alloc hw1 _
   have HOa:Hid (wa.ownsRow w1.heap.size 3 1 u3 k pre):=by rw [←hwa];exact HO.out.alloc _
   have hlk:=fun w' (hs:w'.heap=wa.heap)=>zfj d w' b m ((HM1.out.same (HBa.out.block b HM1.out.lt)).same (by rw [hs]))
   have k1:=hlk wa rfl;have k2:=hlk wa.drew rfl;have q0:wa.cell? ⟨p,0,none⟩=some (.map (some b)):=zaa HBa.out (HP1.out.cell 0);have d0:wa.cell? ⟨wr.heap.size,0,none⟩=some (I d.o):=by rw [←hwa];simp
   have d1:wa.cell? ⟨wr.heap.size,1,none⟩=some (I d.s):=by rw [←hwa];simp
   have d2:wa.cell? ⟨wr.heap.size,2,none⟩=some (I d.i):=by rw [←hwa];simp
   have hsa:wa.heap.size=wr.heap.size+1:=by rw [←hwa];simp
   generalize getD m d=z at *
   clear hlk;have hza:w1.heap.size<=wa.heap.size:=HBa.out.size;clear hsa;go_wp2_with fail
   clear hwa;go_region_law ((refine step_append_lies _ (by rfl) _ _ _ (by rfl) w1.heap.size 3 i (.int .i64 0) 1 8 underlying32 HI.out.1 HI.out.2.1 HI.out.2.2.1 HI.out.2.2.2 (by rfl) (by omega) u3 k pre (by rfl) (by first | exact HOa.out.alloc _ | exact(HOa.out.alloc _).drew | exact(HOa.out.drew).alloc _) ⟨wa.heap.size,0,none⟩ 1 1 [I z] (by rfl) (by rfl) (by first | exact zcf wa _ _ | exact zdb wa _ _) (zsw z) (by omega) n1 n2 (by simp;omega) (wa.heap.size+1) (by simp) ?_;intro g7 cap7 w7 hown7 hgrow7 hat7 hlt7;have LO:Hid (w7.ownsRow w1.heap.size 3 1 (.slice (some ⟨g7,0,none⟩) (k+1) cap7) (k+1) (pre++ [I z])):=hown7;have LB:Hid (Below w1.heap.size w1 w7):=(by first | exact(HBa.out.drew.alloc hza _).grown hgrow7 (by simp;omega) (fun b e=>(HOa.out.lt b e).1) | exact(HBa.out.alloc hza _).drew.grown hgrow7 (by simp;omega) (fun b e=>(HOa.out.lt b e).1));clear hown7 hgrow7 hat7 hlt7))
   all_goals go_wp2
   all_goals refine⟨⟨k+1,hlt,by go_num,by rw [HTK.out];exact LO,LB⟩,by simp [intOf];omega⟩
  ·obtain rfl:k=st.length:=by omega
   have HE:Hid (wr.ownsRow w.heap.size 3 1 u3 (st.map (getD m)).length ((st.map (getD m)).map I)):=by
    have:=HO.out;rw [List.take_length] at this;rw [av];exact znv this HB1.out.size
   have HB2:Hid (Below w.heap.size w wr):=HB1.out.trans (HB.out.mono HB1.out.size);clear HO HB;go_wp2;go_ret;exact⟨⟨_,rfl,by rw [HV.out];exact HE.out⟩,HB2.out⟩
theorem zgy(w:World)(b j:Nat)(v:Value):w.grownBy (w.setCell ⟨b,j,none⟩ v) (some b):=
 ⟨rfl,rfl,rfl,(KeepsWalks.setCell w _ v).size,fun k _ hk=>Below.heap_setCell _ _ _ k (fun e=>hk (by rw [e]))⟩
theorem zif{a b c:World}{g:Nat}(h:a.grownBy b (some g))(k:b.grownBy c (some g)):a.grownBy c (some g):=h.andThen k (fun _ e=> .inr e)
theorem zdx(w:World)(g:Nat)(v0 v1 v2 v3 v4 v5 v6:Value):w.grownBy (putE w g v0 v1 v2 v3 v4 v5 v6) (some g):=by
 unfold putE;exact zif (zif (zif (zif (zif (zif (zgy _ _ _ _) (zgy _ _ _ _)) (zgy _ _ _ _)) (zgy _ _ _ _)) (zgy _ _ _ _)) (zgy _ _ _ _)) (zgy _ _ _ _)
def EfOk(w:World)(va:Int)(ds:List Dt)(err:Int)(e:Ending)(w':World):Prop:=
 ∃a c,e= .returned (.tuple #[.agg #[I 0,I 0,I va,I 0,I 0,I 0, .slice a ds.length c],I err])∧At w' a (flat zac ds)∧(∀p,a=some p->w.heap.size<=p.block)∧Below w.heap.size w w'
theorem ze3(w:World):At w none (flat zac []):=fun j u hj=>by simp [flat] at hj
def regE(m:Lv)(x:Int):Int×List Dt×Int:=if valE x ≠ 0 then(0, [],valE x) else(x,sortD (m.map (·.1)),0)
theorem zpc(p b:Nat)(m:Lv)(op x y:Int)(w:World)(h:Blk w p #[.map (some b)] 204)(hown:MpAt w b m)(hl:m.length<=1048576):
  Calls prog 303 #[.pointer (some ⟨p,0,none⟩),I op,I x,I y] w fun e w'=>EfOk w (regE m x).1 (regE m x).2.1 (regE m x).2.2 e w':=by
 have HB0:Hid (Below w.heap.size w (w.alloc (.cells zeroE 128))):=(Below.refl _ _).alloc (ac _) _;have HK0:Hid (Blk (w.alloc (.cells zeroE 128)) w.heap.size zeroE 128):=heap_alloc_new w _;have HC:Hid (Calls prog 257 #[.map (some b)] (w.alloc (.cells zeroE 128)) _):=zkz b m _ (hown.same (Below.heap_alloc _ _ b hown.lt)) hl;have c0:(w.alloc (.cells zeroE 128)).cell? ⟨p,0,none⟩=some (.map (some b)):=zaa HB0.out (h.cell 0);have hlen:m.length=(sortD (m.map (·.1))).length:=by rw [zek,av]
 rw [hlen] at HC;have HN:Hid (regE m x=if valE x ≠ 0 then(0, [],valE x) else(x,sortD (m.map (·.1)),0)):=rfl;clear h hown hlen;go_enter func303,ntmps303;go_wp2_with fail
 refine(zd6 x _).mono ?_;rintro e w1 ⟨rfl,hw1⟩;rw [hw1];clear hw1 w1;generalize valE x=ve at *
 generalize sortD (m.map (·.1))=ds at *
 by_cases hv:ve=0
 ·have HN2:Hid (regE m x=(x,ds,0)):=by show _=_;rw [HN.out,ap (by simp [hv])]
  subst hv;clear HN;go_wp2_with fail
  refine HC.out.mono ?_;rintro e w1 ⟨v,rfl,hrow,hb1⟩;obtain⟨a1,c1,rfl,hA,hform⟩:=zj9 hrow;have HBW:Hid (Below w.heap.size w w1):=HB0.out.trans (hb1.mono HB0.out.size);have HKW:Hid (Blk w1 w.heap.size zeroE 128):=HK0.out.kept hb1 HK0.out.lt
  have HR:Hid (w1.ownsRow (w.heap.size+1) 125 3 (.slice a1 ds.length c1) ds.length (flat zac ds)):=by
   have:(w.alloc (.cells zeroE 128)).heap.size=w.heap.size+1:=by simp
   rw [this] at hrow;exact hrow
  clear HC HB0 HK0 hb1 hrow hA hform c0;have k0:w1.cell? ⟨w.heap.size,0,none⟩=some (.int .i64 0):=HKW.out.cell 0;have z0:=HKW.out.frozen 0;have k1:w1.cell? ⟨w.heap.size,1,none⟩=some (.int .i64 0):=HKW.out.cell 1;have z1:=HKW.out.frozen 1;have k2:w1.cell? ⟨w.heap.size,2,none⟩=some (.int .i64 0):=HKW.out.cell 2;have z2:=HKW.out.frozen 2;have k3:w1.cell? ⟨w.heap.size,3,none⟩=some (.int .i64 0):=HKW.out.cell 3;have z3:=HKW.out.frozen 3;have k4:w1.cell? ⟨w.heap.size,4,none⟩=some (.int .i64 0):=HKW.out.cell 4;have z4:=HKW.out.frozen 4;have k5:w1.cell? ⟨w.heap.size,5,none⟩=some (.int .i64 0):=HKW.out.cell 5;have z5:=HKW.out.frozen 5;have k6:w1.cell? ⟨w.heap.size,6,none⟩=some (.slice none 0 0):=HKW.out.cell 6;have z6:=HKW.out.frozen 6;go_wp2;have HF:Hid (Blk (putE w1 w.heap.size (I 0) (I 0) (I x) (I 0) (I 0) (I 0) (.slice a1 ds.length c1)) w.heap.size #[I 0,I 0,I x,I 0,I 0,I 0, .slice a1 ds.length c1] 128):=zb0 HKW.out _ _ _ _ _ _ _;have HG:Hid (w1.grownBy (putE w1 w.heap.size (I 0) (I 0) (I x) (I 0) (I 0) (I 0) (.slice a1 ds.length c1)) (some w.heap.size)):=zdx _ _ _ _ _ _ _ _ _;have HY:Hid (Below w.heap.size w (putE w1 w.heap.size (I 0) (I 0) (I x) (I 0) (I 0) (I 0) (.slice a1 ds.length c1))):=zbc HBW.out (ac _) _ _ _ _ _ _ _;unfold putE at HF HG HY;generalize (((((((w1.setCell ⟨w.heap.size,0,none⟩ (I 0)).setCell ⟨w.heap.size,1,none⟩ (I 0)).setCell ⟨w.heap.size,2,none⟩ (I x)).setCell ⟨w.heap.size,3,none⟩ (I 0)).setCell ⟨w.heap.size,4,none⟩ (I 0)).setCell ⟨w.heap.size,5,none⟩ (I 0)).setCell ⟨w.heap.size,6,none⟩ (.slice a1 ds.length c1))=wF at *
  have f0:wF.cell? ⟨w.heap.size,0,none⟩=some (I 0):=HF.out.cell 0;have f1:wF.cell? ⟨w.heap.size,1,none⟩=some (I 0):=HF.out.cell 1;have f2:wF.cell? ⟨w.heap.size,2,none⟩=some (I x):=HF.out.cell 2;have f3:wF.cell? ⟨w.heap.size,3,none⟩=some (I 0):=HF.out.cell 3;have f4:wF.cell? ⟨w.heap.size,4,none⟩=some (I 0):=HF.out.cell 4;have f5:wF.cell? ⟨w.heap.size,5,none⟩=some (I 0):=HF.out.cell 5;have f6:wF.cell? ⟨w.heap.size,6,none⟩=some (.slice a1 ds.length c1):=HF.out.cell 6;refine bodyPost_ret (v:= .tuple #[.agg #[I 0,I 0,I x,I 0,I 0,I 0, .slice a1 ds.length c1],I 0]) (by simp [results,Tryz.results303,go_sem,f0,f1,f2,f3,f4,f5,f6]) rfl ?_;rw [HN2.out]
  have hrow:=HR.out.kept HG.out (by
   rcases hq:(Value.slice a1 ds.length c1).ownBlock with _ | g
   ·exact .inl rfl
   ·refine .inr ?_
    have:=(HR.out.lt g hq).1;intro e;have:=Option.some.inj e
    omega)
  obtain⟨a2,c2,he,hA2,hfm⟩:=zj9 hrow;obtain⟨rfl,_,rfl⟩:=Value.slice.inj he;refine⟨a1,c1,rfl,hA2,fun q hq=> ?_,HY.out⟩;rcases HR.out.2 with⟨e1,_⟩ | ⟨g,cap,cur,e1,hbg,_⟩
  ·obtain⟨e2,_,_⟩:=Value.slice.inj e1
   rw [hq] at e2;cases e2
  ·obtain⟨e2,_,_⟩:=Value.slice.inj e1
   rw [hq] at e2;cases e2
   exact aQ (Nat.le_succ _) hbg
 ·have HN2:Hid (regE m x=(0, [],ve)):=by show _=_;rw [HN.out,aA hv]
  clear HN HC;have hvb:(ve !=0)=true:=by simpa using hv
  obtain⟨w1,hw1⟩:∃w1,w.alloc (.cells zeroE 128)=w1:=⟨_,rfl⟩
  have HBW:Hid (Below w.heap.size w w1):=by rw [←hw1];exact HB0.out
  have HKW:Hid (Blk w1 w.heap.size zeroE 128):=by rw [←hw1];exact HK0.out
  rw [hw1];clear HB0 HK0 hw1 c0;have k0:w1.cell? ⟨w.heap.size,0,none⟩=some (.int .i64 0):=HKW.out.cell 0;have z0:=HKW.out.frozen 0;have k1:w1.cell? ⟨w.heap.size,1,none⟩=some (.int .i64 0):=HKW.out.cell 1;have z1:=HKW.out.frozen 1;have k2:w1.cell? ⟨w.heap.size,2,none⟩=some (.int .i64 0):=HKW.out.cell 2;have z2:=HKW.out.frozen 2;have k3:w1.cell? ⟨w.heap.size,3,none⟩=some (.int .i64 0):=HKW.out.cell 3;have z3:=HKW.out.frozen 3;have k4:w1.cell? ⟨w.heap.size,4,none⟩=some (.int .i64 0):=HKW.out.cell 4;have z4:=HKW.out.frozen 4;have k5:w1.cell? ⟨w.heap.size,5,none⟩=some (.int .i64 0):=HKW.out.cell 5;have z5:=HKW.out.frozen 5;have k6:w1.cell? ⟨w.heap.size,6,none⟩=some (.slice none 0 0):=HKW.out.cell 6;have z6:=HKW.out.frozen 6;go_wp2;have HF:Hid (Blk (putE w1 w.heap.size (I 0) (I 0) (I 0) (I 0) (I 0) (I 0) (.slice none 0 0)) w.heap.size #[I 0,I 0,I 0,I 0,I 0,I 0, .slice none 0 0] 128):=zb0 HKW.out _ _ _ _ _ _ _;have HG:Hid (w1.grownBy (putE w1 w.heap.size (I 0) (I 0) (I 0) (I 0) (I 0) (I 0) (.slice none 0 0)) (some w.heap.size)):=zdx _ _ _ _ _ _ _ _ _;have HY:Hid (Below w.heap.size w (putE w1 w.heap.size (I 0) (I 0) (I 0) (I 0) (I 0) (I 0) (.slice none 0 0))):=zbc HBW.out (ac _) _ _ _ _ _ _ _;unfold putE at HF HG HY;generalize (((((((w1.setCell ⟨w.heap.size,0,none⟩ (I 0)).setCell ⟨w.heap.size,1,none⟩ (I 0)).setCell ⟨w.heap.size,2,none⟩ (I 0)).setCell ⟨w.heap.size,3,none⟩ (I 0)).setCell ⟨w.heap.size,4,none⟩ (I 0)).setCell ⟨w.heap.size,5,none⟩ (I 0)).setCell ⟨w.heap.size,6,none⟩ (.slice none 0 0))=wF at *
  have f0:wF.cell? ⟨w.heap.size,0,none⟩=some (I 0):=HF.out.cell 0;have f1:wF.cell? ⟨w.heap.size,1,none⟩=some (I 0):=HF.out.cell 1;have f2:wF.cell? ⟨w.heap.size,2,none⟩=some (I 0):=HF.out.cell 2;have f3:wF.cell? ⟨w.heap.size,3,none⟩=some (I 0):=HF.out.cell 3;have f4:wF.cell? ⟨w.heap.size,4,none⟩=some (I 0):=HF.out.cell 4;have f5:wF.cell? ⟨w.heap.size,5,none⟩=some (I 0):=HF.out.cell 5;have f6:wF.cell? ⟨w.heap.size,6,none⟩=some (.slice none 0 0):=HF.out.cell 6;refine bodyPost_ret (v:= .tuple #[.agg #[I 0,I 0,I 0,I 0,I 0,I 0, .slice none 0 0],I ve]) (by simp [results,Tryz.results303,go_sem,f0,f1,f2,f3,f4,f5,f6]) rfl ?_;rw [HN2.out];exact⟨none,0,rfl,ze3 _,(fun q hq=>by cases hq),HY.out⟩
def gone(Bs Bv:Nat):Value:= .func (.func 258) #[] #[.pointer (some ⟨Bs,0,none⟩), .pointer (some ⟨Bv,0,none⟩)]
def zfz(w0:World)(f:Dt->Bool)(Bs Bv:Nat):Prop:=∀d w,Below w0.heap.size w0 w->Calls prog 258 #[dotV d, .pointer (some ⟨Bs,0,none⟩), .pointer (some ⟨Bv,0,none⟩)] w fun e w'=>e= .returned (.bool (f d))∧Below w.heap.size w w'
theorem gone_any(p b Bs Bv:Nat)(m:Lv)(x:Int)(w0:World)(hp:Blk w0 p #[.map (some b)] 202)(hs:w0.cell? ⟨Bs,0,none⟩=some (.pointer (some ⟨p,0,none⟩)))(hv:w0.cell? ⟨Bv,0,none⟩=some (I x))(hm:MpAt w0 b m):zfz w0 (fun d=>getD m d !=x) Bs Bv:=by
 intro d w hb;show Calls _ _ _ _ (fun e w'=>e= .returned (.bool (getD m d !=x))∧Below w.heap.size w w');have hB:Below w.heap.size w (w.alloc (.cells #[I d.o,I d.s,I d.i] 125)):=(Below.refl _ _).alloc (ac _) _;have c0:=zaa hB (zaa hb hs);have c1:=zaa hB (zaa hb hv);have c2:(w.alloc (.cells #[I d.o,I d.s,I d.i] 125)).cell? ⟨p,0,none⟩=some (.map (some b)):=zaa hB (zaa hb (hp.cell 0));have k1:=zfj d (w.alloc (.cells #[I d.o,I d.s,I d.i] 125)).drew b m (((hm.below hb).below hB).same rfl);have HBB:Hid (Below w.heap.size w (w.alloc (.cells #[I d.o,I d.s,I d.i] 125)).drew):=hB.drew;clear hp hs hv hm hb hB;generalize getD m d=z at *
 go_enter func258,ntmps258;go_wp2_with fail
 go_region_law (fail)
 all_goals go_wp2
 all_goals go_ret
 all_goals exact⟨rfl,HBB.out⟩
def zb9(f:Dt->Bool)(l:List Dt):Int:=match l.findIdx? f with | some k=>k | none=> -1
theorem zxc(f:Dt->Bool)(l:List Dt)(k:Nat)(hk:k<l.length)(h:f l[k]=true)(hn:∀j (hj:j<l.length),j<k->f l[j]=false):zb9 f l=k:=by
 unfold zb9;have:l.findIdx? f=some k:=List.findIdx?_eq_some_iff_getElem.2 ⟨hk,h,fun j hj=>by simpa using hn j (by omega) hj⟩;rw [this]
theorem zqf(f:Dt->Bool)(l:List Dt)(hn:∀j (hj:j<l.length),f l[j]=false):zb9 f l= -1:=by
 unfold zb9
 have:l.findIdx? f=none:=List.findIdx?_eq_none_iff.2 (fun x hx=>by
  obtain⟨j,hj,rfl⟩:=aI.1 hx
  exact hn j hj)
 rw [this]
theorem zn4(f:Dt->Bool)(l:List Dt)(hl:l.length<=1048576): -1<=zb9 f l∧zb9 f l<=1048576:=by
 unfold zb9;split
 ·rename_i k hk
  obtain⟨h,_⟩:=List.findIdx?_eq_some_iff_getElem.1 hk;omega
 ·omega
theorem zqe(f:Dt->Bool)(l:List Dt)(h:¬zb9 f l= -1):∃k:Nat,zb9 f l=k∧∃hk:k<l.length,f l[k]=true∧∀j (hj:j<k),f (l[j]'(by omega))=false:=by
 unfold zb9 at h ⊢;split
 ·rename_i k hk
  obtain⟨h1,h2,h3⟩:=List.findIdx?_eq_some_iff_getElem.1 hk;exact⟨k,rfl,h1,h2,fun j hj=>by simpa using h3 j hj⟩
 ·rename_i hn
  rw [hn] at h;simp at h
theorem zko(a:Option Addr)(c:Nat)(ds:List Dt)(f:Dt->Bool)(Bs Bv:Nat)(w w0:World)(hb:Below w0.heap.size w0 w)(hat:At w a (flat zac ds))(hl:ds.length<=1048576)(hf:zfz w0 f Bs Bv):
  Calls prog 263 #[.slice a ds.length c,gone Bs Bv] w fun e w'=>e= .returned (I (zb9 f ds))∧Below w.heap.size w w':=by
 have HAT:Hid (At w a (flat zac ds)):=hat;have HB0:Hid (Below w0.heap.size w0 w):=hb;have HF:Hid (zfz w0 f Bs Bv):=hf;clear hat hb hf;unfold gone;go_enter func263,ntmps263;go_wp2_with fail
 go_loopw [8] (fun x wr=>∃k:Nat,k<=ds.length∧x=I k∧Hid (∀j (hj:j<ds.length),j<k->f ds[j]=false)∧Hid (Below w.heap.size w wr)) (fun x _=>ds.length - (intOf x).toNat)
 case atStart=>exact⟨0,az _,rfl,fun j hj h=>absurd h (by omega),Below.refl _ _⟩
 case round=>
  obtain⟨k,hk,rfl,HN,HB⟩:=hrel;by_cases hlt:k<ds.length
  ·obtain⟨p2,q2,rfl,hp2,hE⟩:=zhs HAT.out (by omega)
   obtain⟨e0',e1',e2'⟩:=hE k hlt;have e0:=zaa HB.out e0';have e1:=zaa HB.out e1';have e2:=zaa HB.out e2';clear hE e0' e1' e2';have hki:(k:Int)<ds.length:=by omega
   have HC:=HF.out ds[k] wr (HB0.out.trans (HB.out.mono HB0.out.size));go_wp2_with fail
   refine HC.mono ?_;rintro e w1 ⟨rfl,hb1⟩;have HB1:Hid (Below w.heap.size w w1):=HB.out.trans (hb1.mono HB.out.size);clear hb1 HC;generalize hfk:f ds[k]=b at *
   cases b
   ·go_wp2_with fail
    go_roundw
    case rel=>
     refine⟨k+1,hlt,by go_num,fun j hj h=> ?_,HB1⟩;by_cases hjk:j=k
     ·subst hjk;exact hfk
     ·exact HN.out j hj (by omega)
    case measure=>simp [intOf];omega
   ·have HI:Hid (zb9 f ds=k):=zxc f ds k hlt hfk HN.out
    go_wp2;go_ret;exact⟨zbo HI.out.symm,HB1.out⟩
  ·obtain rfl:k=ds.length:=by omega
   have HI:Hid (zb9 f ds= -1):=zqf f ds (fun j hj=>HN.out j hj hj);go_wp2;go_ret;exact⟨zbo HI.out.symm,HB.out⟩
structure RwD(w:World)(g:Nat)(cs:List Dt):Prop where
 row:∃cur:Array Value,Blk w g cur 125∧cs.length*3<=cur.size∧∀j,j<cs.length*3->cur[j]?=(flat zac cs)[j]?
theorem RwD.lt{w:World}{g:Nat}{cs:List Dt}(h:RwD w g cs):g<w.heap.size:=by
 obtain⟨cur,hB,_⟩:=h.row;exact hB.lt
theorem RwD.dots{w:World}{g:Nat}{cs:List Dt}(h:RwD w g cs)(k:Nat)(hk:k<cs.length):w.cell? ⟨g,k*3,none⟩=some (I cs[k].o)∧w.cell? ⟨g,k*3+1,none⟩=some (I cs[k].s)∧w.cell? ⟨g,k*3+2,none⟩=some (I cs[k].i):=by
 obtain⟨cur,hB,hs,hc⟩:=h.row
 have hx:∀j (hj:j<3),w.cell? ⟨g,k*3+j,none⟩=(zac cs[k])[j]?:=fun j hj=>by
  rw [hB.cell,hc _ (by omega)];exact zao zac 3 zat cs k hk j hj
 exact⟨hx 0 (by omega),hx 1 (by omega),hx 2 (by omega)⟩
theorem RwD.at{w:World}{g:Nat}{cs:List Dt}(h:RwD w g cs):At w (some ⟨g,0,none⟩) (flat zac cs):=by
 obtain⟨cur,hB,hs,hc⟩:=h.row;intro j u hj;have hl:=zan zac 3 zat cs
 have hjl:j<cs.length*3:=by
  have:=(af.1 hj).1;omega
 exact⟨g,0,rfl,by rw [hB.cell,aV,hc j hjl];exact hj⟩
theorem RwD.kept{w w':World}{g:Nat}{cs:List Dt}(h:RwD w g cs)(hb:Below w.heap.size w w'):RwD w' g cs:=by
 obtain⟨cur,hB,r⟩:=h.row;exact⟨cur,hB.kept hb hB.lt,r⟩
theorem RwD.free{w:World}{g:Nat}{cs:List Dt}(h:RwD w g cs)(j:Nat):w.frozen? ⟨g,j,none⟩=false:=by
 obtain⟨cur,hB,_⟩:=h.row;exact hB.frozen j
abbrev put3 (w:World) (g o:Nat) (e:Dt):World:=((w.setCell ⟨g,o,none⟩ (I e.o)).setCell ⟨g,o+1,none⟩ (I e.s)).setCell ⟨g,o+2,none⟩ (I e.i)
theorem zr6{w0 w:World}(h:Below w0.heap.size w0 w){g:Nat}(hg:w0.heap.size<=g)(o:Nat)(e:Dt):Below w0.heap.size w0 (put3 w g o e):=
 ((h.setCell hg _).setCell hg _).setCell hg _
theorem RwD.put{w:World}{g:Nat}{cs:List Dt}(h:RwD w g cs)(k:Nat)(e:Dt):RwD (put3 w g (k*3) e) g (cs.set k e):=by
 obtain⟨cur,hB,hs,hc⟩:=h.row;refine⟨_,((hB.set _ _).set _ _).set _ _,by simpa using hs,fun j hj=> ?_⟩;have hj':j<cs.length*3:=by simpa using hj
 rw [zfx zac 3 zat cs k e j hj'];simp only [Array.getElem?_setIfInBounds,Array.size_setIfInBounds];have hjs:j<cur.size:=by omega
 by_cases h0:j=k*3
 ·subst h0;simp [zac,hjs]
 by_cases h1:j=k*3+1
 ·subst h1;simp [zac,hjs]
 by_cases h2:j=k*3+2
 ·subst h2;simp [zac,hjs]
 rw [ap (by omega),ap (by omega),ap (by omega),ap (by omega)];exact hc j hj'
theorem zu1(n:Nat):∀u∈(Builtin.zeroCells (#[Value.int .i64 0, .int .i64 0, .int .i64 0]:Array Value) n).toList,u.oneCell'=true:=by
 intro u hu;simp only [Builtin.zeroCells,Array.toList_map,aG] at hu;obtain⟨i,_,rfl⟩:=hu;have h:i % 3<3:=Nat.mod_lt _ (by decide);show(#[Value.int .i64 0, .int .i64 0, .int .i64 0][i % 3]!).oneCell'=true;generalize i % 3=r at h;have:r=0∨r=1∨r=2:=by omega
 rcases this with rfl | rfl | rfl<;>rfl
theorem RwD.take{w:World}{g:Nat}{cs:List Dt}(h:RwD w g cs)(k:Nat):RwD w g (cs.take k):=by
 obtain⟨cur,hB,hs,hc⟩:=h.row;have hl:(cs.take k).length<=cs.length:=by rw [al];omega
 refine⟨cur,hB,by omega,fun j hj=> ?_⟩;rw [hc j (by omega)];have hq:j / 3<(cs.take k).length:=Nat.div_lt_of_lt_mul (by omega);have hr:j % 3<3:=Nat.mod_lt _ (by decide);have e:j=j / 3*3+j % 3:=by omega
 rw [e,zao zac 3 zat cs (j / 3) (by omega) _ hr,zao zac 3 zat (cs.take k) (j / 3) hq _ hr];simp
theorem zj2(w:World)(ty:TypeId)(g k n c:Nat)(cs:List Dt)(h:RwD w g cs)(hn:k+n=cs.length):
  ∃w',(Builtin.clear_ #[126] ty #[.slice (some ⟨g,k*3,none⟩) n c]).run prog w= .ok (.tuple #[]) w'∧RwD w' g (cs.take k)∧w.grownBy w' (some g):=by
 have h':=h;obtain⟨cur,hB,hs,hc⟩:=h.row;rcases Nat.eq_zero_or_pos n with rfl | hpos
 ·exact⟨w,by simp [Builtin.clear_,run_underlying underlying126],h'.take k,⟨rfl,rfl,rfl,ac _,fun _ _ _=>rfl⟩⟩
 ·obtain⟨i,hi,hz,hsz,_⟩:=info_parts zz9
  obtain⟨Z,hZ⟩:∃Z,Z=(Builtin.zeroCells (#[Value.int .i64 0, .int .i64 0, .int .i64 0]:Array Value) n).toList:=⟨_,rfl⟩
  have hzl:Z.length=n*3:=by rw [hZ];simp [Builtin.zeroCells]
  have hst:=run_storeCells_at (P:=prog) g (k*3) 125 Z 0 cur w hB (by omega) (by rw [hZ];exact zu1 n);simp only [Nat.add_zero] at hst;refine⟨w.setRow g (cur.toList.take (k*3)++Z++cur.toList.drop (k*3+Z.length)).toArray, ?_,⟨_,setRow_heap w g cur _ _ _ hB, ?_,fun j hj=> ?_⟩,⟨rfl,rfl,rfl,by simp,fun j _ hj=>setRow_other w g j _ (fun e=>hj (by rw [e]))⟩⟩
  ·obtain⟨m,rfl⟩:∃m,n=m+1:=⟨n - 1,by omega⟩
   simp [Builtin.clear_,run_underlying underlying126,zeroValue,typeInfo,hi,hz,Value.cells,←hZ,hst]
  ·rw [al]
   simp only [List.size_toArray,ah,al,aP,Array.length_toList,hzl];omega
  ·have hj':j<k*3:=by rw [al] at hj;omega
   obtain⟨cur2,hB2,_,hc2⟩:=(h'.take k).row;obtain rfl:cur2=cur:=by have:=hB2.symm.trans hB;simpa using this
   rw [←hc2 j hj,au,List.getElem?_toArray,List.getElem?_append_left (by rw [al,Array.length_toList];omega),aL hj'];simp
def keepD(f:Dt->Bool)(l:List Dt):List Dt:=l.filter (fun d=> !f d)
theorem zgx(f:Dt->Bool)(l:List Dt)(d:Dt):keepD f (l++ [d])=keepD f l++(if f d then [] else [d]):=by
 unfold keepD;cases h:f d<;>simp [h]
theorem zkk(f:Dt->Bool)(l:List Dt)(h:∀d∈l,f d=false):keepD f l=l:=by
 unfold keepD;rw [List.filter_eq_self];intro e he;simp [h e he]
theorem zwp(f:Dt->Bool)(l:List Dt)(h:zb9 f l= -1):keepD f l=l:=by
 refine zkk f l (fun d hd=> ?_);unfold zb9 at h;split at h
 ·omega
 ·rename_i hn
  exact List.findIdx?_eq_none_iff.1 hn d hd
theorem delD_any(g c:Nat)(ds:List Dt)(f:Dt->Bool)(Bs Bv:Nat)(w w0:World)(hb:Below w0.heap.size w0 w)(hg:w0.heap.size<=g)(h:RwD w g ds)(hl:ds.length<=1048576)(hc:ds.length<=c)(hf:zfz w0 f Bs Bv):
  Calls prog 256 #[.slice (some ⟨g,0,none⟩) ds.length c,gone Bs Bv] w fun e w'=>(∃m,e= .returned (.slice (some ⟨g,0,none⟩) m c)∧m=(keepD f ds).length)∧RwD w' g (keepD f ds)∧Below w0.heap.size w0 w':=by
 have HR:Hid (RwD w g ds):=h;have HB:Hid (Below w0.heap.size w0 w):=hb;have HF:Hid (zfz w0 f Bs Bv):=hf;have HC:=zko (some ⟨g,0,none⟩) c ds f Bs Bv w w0 hb h.at hl hf;clear h hb hf;unfold gone at *
 go_enter func256,ntmps256;go_wp2_with fail
 refine HC.mono ?_;rintro e w1 ⟨rfl,hb1⟩;have HB1:Hid (Below w0.heap.size w0 w1):=HB.out.trans (hb1.mono HB.out.size);have HR1:Hid (RwD w1 g ds):=HR.out.kept hb1;clear hb1 HR HB HC;have hr:=zn4 f ds hl;by_cases hneg:zb9 f ds= -1
 ·have HS:Hid (keepD f ds=ds):=zwp f ds hneg
  rw [hneg];go_wp2;go_ret;exact⟨⟨_,rfl,by rw [HS.out]⟩,by rw [HS.out];exact HR1.out,HB1.out⟩
 ·obtain⟨k0,hk0,hkl,hkx,hkn⟩:=zqe f ds hneg
  have HT0:Hid (ds.take k0=keepD f (ds.take (k0+1))):=by
   show _=_;rw [aC hkl,zgx,hkx,zkk]
   ·simp
   ·intro e he
    obtain⟨j,hj,rfl⟩:=aI.1 he;have hj':j<k0:=by rw [al] at hj;omega
    simpa using hkn j hj'
  have hk1:¬((k0:Int)= -1):=by omega
  rw [hk0];clear hneg hr hkx hkn hk0;have hkb:((k0:Int)== -1)=false:=by simp
  go_wp2_with fail
  go_loopw [5,6] (fun xi xj wr=>∃(i j:Nat) (cs:List Dt),i<j∧j<=ds.length∧xi=I i∧xj=I j∧Hid (cs.length=ds.length)∧Hid (cs.take i=keepD f (ds.take j))∧Hid (∀k,j<=k->cs[k]?=ds[k]?)∧Hid (RwD wr g cs)∧Hid (Below w0.heap.size w0 wr)) (fun _ xj _=>ds.length - (intOf xj).toNat)
  case atStart=>exact⟨k0,k0+1,ds,by omega,hkl,rfl,by go_num,rfl,HT0,fun _ _=>rfl,HR1,HB1⟩
  case round=>
   obtain⟨i,j,cs,hij,hj,rfl,rfl,HCL,HCT,HCR,HR,HB⟩:=hrel;clear HR1 HB1 HT0;by_cases hlt:j<ds.length
   ·have hji:(j:Int)<ds.length:=by omega
    have hjc:j<cs.length:=by rw [HCL.out];exact hlt
    have hic:i<cs.length:=by omega
    obtain⟨e0,e1,e2⟩:=HR.out.dots j hjc
    have HE:Hid (cs[j]=ds[j]):=by
     have:=HCR.out j (ac _);rw [ag hjc,ag hlt] at this;exact Option.some.inj this
    have HTS:Hid (ds.take (j+1)=ds.take j++ [ds[j]]):=aC hlt;rw [←HE.out] at HTS;clear HE;have hgl:=HR.out.lt;generalize cs[j]=e at *
    have HV:Hid (Below wr.heap.size wr (wr.alloc (.cells #[I e.o,I e.s,I e.i] 125))):=(Below.refl _ _).alloc (ac _) _;have HVK:Hid (Blk (wr.alloc (.cells #[I e.o,I e.s,I e.i] 125)) wr.heap.size #[I e.o,I e.s,I e.i] 125):=heap_alloc_new wr _;have HC:=HF.out e (wr.alloc (.cells #[I e.o,I e.s,I e.i] 125)) (HB.out.trans (HV.out.mono HB.out.size));go_wp2_with fail
    refine HC.mono ?_;rintro r w2 ⟨rfl,hb2⟩;have HB2:Hid (Below w0.heap.size w0 w2):=HB.out.trans ((HV.out.trans (hb2.mono (by simp))).mono HB.out.size);have HR2:Hid (RwD w2 g cs):=HR.out.kept (HV.out.trans (hb2.mono (by simp)));have HK2:Hid (Blk w2 wr.heap.size #[I e.o,I e.s,I e.i] 125):=HVK.out.kept hb2 HVK.out.lt;clear HV HVK hb2 HR HB e0 e1 e2 HC;generalize hx:f e=bx at *
    cases bx
    ·obtain⟨e0,e1,e2⟩:=HR2.out.dots i hic
     have f0:=HR2.out.free (i*3);have f1:=HR2.out.free (i*3+1);have f2:=HR2.out.free (i*3+2);have v0:w2.cell? ⟨wr.heap.size,0,none⟩=some (I e.o):=HK2.out.cell 0;have v1:w2.cell? ⟨wr.heap.size,1,none⟩=some (I e.s):=HK2.out.cell 1;have v2:w2.cell? ⟨wr.heap.size,2,none⟩=some (I e.i):=HK2.out.cell 2;have hii:(i:Int)<ds.length:=by omega
     have LR:Hid (RwD (put3 w2 g (i*3) e) g (cs.set i e)):=HR2.out.put i e;have LB:Hid (Below w0.heap.size w0 (put3 w2 g (i*3) e)):=zr6 HB2.out hg _ _;unfold put3 at LR LB;go_wp2_with fail
     go_roundw
     case rel=>
      refine⟨i+1,j+1,cs.set i e,by omega,hlt,by go_num,by go_num, ?_, ?_, ?_,LR,LB⟩
      ·show _=_
       rw [aE];exact HCL.out
      ·show _=_
       rw [HTS.out,zgx,hx,←HCT.out,aC (by simpa using hic),List.take_set_of_le (ac _)];simp
      ·intro k hk
       rw [aK (by omega)];exact HCR.out k (by omega)
     case measure=>simp [intOf];omega
    ·go_wp2_with fail
     go_roundw
     case rel=>
      refine⟨i,j+1,cs,by omega,hlt,rfl,by go_num,HCL, ?_,fun k hk=>HCR.out k (by omega),HR2,HB2⟩;show _=_;rw [HTS.out,zgx,hx,←HCT.out];simp
     case measure=>simp [intOf];omega
   ·obtain rfl:j=ds.length:=by omega
    have HS:Hid (cs.take i=keepD f ds):=by show _=_;rw [HCT.out,List.take_length]
    have hil:(keepD f ds).length=i:=by rw [←HS.out,al,HCL.out];omega
    have hsl:i+(ds.length - i)=cs.length:=by rw [HCL.out];omega
    have hii:(i:Int)<=ds.length:=by omega
    have hic:(i:Int)<=c:=by omega
    have hicn:i<=c:=by omega
    clear HCL HCT HCR;obtain⟨w3,hclr,h3,h4⟩:=zj2 wr 0 g i (ds.length - i) (c - i) cs HR.out hsl;have H3:Hid (RwD w3 g (keepD f ds)):=by rw [HS.out] at h3;exact h3
    have H4:Hid (Below w0.heap.size w0 w3):=HB.out.grown h4 HB.out.size (fun k e=>by cases e;exact hg);clear h3 h4 HS;go_wp2;go_ret;exact⟨⟨i,rfl,hil.symm⟩,H3.out,H4.out⟩
theorem delD_nil(c:Nat)(f:Dt->Bool)(Bs Bv:Nat)(w w0:World)(hb:Below w0.heap.size w0 w)(hf:zfz w0 f Bs Bv):
  Calls prog 256 #[.slice none 0 c,gone Bs Bv] w fun e w'=>e= .returned (.slice none 0 c)∧Below w0.heap.size w0 w':=by
 have HB:Hid (Below w0.heap.size w0 w):=hb;have HC:=zko none c [] f Bs Bv w w0 hb (ze3 w) (by simp) hf;clear hb hf;unfold gone at *
 have hn:zb9 f []= -1:=rfl;rw [hn] at HC;simp only [List.length_nil] at HC;go_enter func256,ntmps256;go_wp2_with fail
 refine HC.mono ?_;rintro e w1 ⟨rfl,hb1⟩;have HB1:Hid (Below w0.heap.size w0 w1):=HB.out.trans (hb1.mono HB.out.size);clear hb1 HB HC;go_wp2;go_ret;exact⟨rfl,HB1.out⟩
def remD(m:Lv)(x:Int):List Dt:=keepD (fun d=>getD m d !=x) (sortD (m.map (·.1)))
def zjm(w:World)(ds:List Dt)(e:Ending)(w':World):Prop:=∃a c,e= .returned (.slice a ds.length c)∧At w' a (flat zac ds)∧(∀q,a=some q->w.heap.size<=q.block)∧Below w.heap.size w w'
theorem del_own(base:Nat)(v:Value)(ds:List Dt)(f:Dt->Bool)(Bs Bv:Nat)(w w0:World)(hb:Below w0.heap.size w0 w)(hbase:w0.heap.size<=base)(h:w.ownsRow base 125 3 v ds.length (flat zac ds))(hl:ds.length<=1048576)(hf:zfz w0 f Bs Bv):
  Calls prog 256 #[v,gone Bs Bv] w fun e w'=>zjm w0 (keepD f ds) e w':=by
 rcases h.2 with⟨rfl,h0⟩ | ⟨g,cap,cur,rfl,hbg,hgb,r1,r2,r3,r4⟩
 ·obtain rfl:ds= []:=aw h0
  refine(delD_nil 0 f Bs Bv w w0 hb hf).mono ?_;rintro e w' ⟨rfl,hb'⟩;exact⟨none,0,rfl,ze3 _,(fun q hq=>by cases hq),hb'⟩
 ·have hR:RwD w g ds:=⟨cur,hgb,by rw [r3];exact Nat.mul_le_mul_right _ r1,fun j hj=>by
   have:(cur.toList.take (ds.length*3))[j]?=(flat zac ds)[j]?:=by rw [r4]
   rw [aL hj] at this
   simpa using this⟩
  refine(delD_any g cap ds f Bs Bv w w0 hb (aQ hbase hbg) hR hl r1 hf).mono ?_;rintro e w' ⟨⟨m,rfl,rfl⟩,hR',hb'⟩;exact⟨_,_,rfl,hR'.at,(fun q hq=>by cases hq;exact aQ hbase hbg),hb'⟩
theorem ztj(p b:Nat)(m:Lv)(x:Int)(w:World)(h:Blk w p #[.map (some b)] 202)(hown:MpAt w b m)(hl:m.length<=1048576):
  Calls prog 250 #[.pointer (some ⟨p,0,none⟩),I x] w fun e w'=>zjm w (remD m x) e w':=by
 obtain⟨w0,hw0⟩:∃w0,(w.alloc (.cells #[.pointer (some ⟨p,0,none⟩)] 198)).alloc (.cells #[I x] 3)=w0:=⟨_,rfl⟩
 have hB:Below w.heap.size w w0:=by rw [←hw0];exact((Below.refl _ _).alloc (ac _) _).alloc (by simp) _
 have s0:w0.cell? ⟨w.heap.size,0,none⟩=some (.pointer (some ⟨p,0,none⟩)):=by rw [←hw0];exact zaa ((Below.refl _ _).alloc (ac _) _) (by simp)
 have s1:w0.cell? ⟨w.heap.size+1,0,none⟩=some (I x):=by rw [←hw0];simp
 have hP:=gone_any p b w.heap.size (w.heap.size+1) m x w0 (h.kept hB h.lt) s0 s1 (hown.below hB);have hC:=zkz b m w0 (hown.below hB) hl;have c0:w0.cell? ⟨p,0,none⟩=some (.map (some b)):=zaa hB (h.cell 0);have HB:Hid (Below w.heap.size w w0):=hB;have HP:Hid (zfz w0 (fun d=>getD m d !=x) w.heap.size (w.heap.size+1)):=hP;have hlen:m.length=(sortD (m.map (·.1))).length:=by rw [zek,av]
 have HRM:Hid (remD m x=keepD (fun d=>getD m d !=x) (sortD (m.map (·.1)))):=rfl;rw [hlen] at hC hl;clear h hown hB hP s1 hlen;go_enter func250,ntmps250;go_wp2_with fail
 refine hC.mono ?_;rintro e w1 ⟨v,rfl,hrow,hb1⟩;have HD:Hid (Calls prog 256 #[v,gone w.heap.size (w.heap.size+1)] w1 fun e w'=>zjm w0 (remD m x) e w'):=del_own w0.heap.size v _ _ _ _ w1 w0 hb1 (ac _) hrow hl HP.out;clear hC HP hrow hb1 c0 s0;unfold gone at HD;go_wp2_with fail
 refine HD.out.mono ?_;rintro e w2 ⟨a2,c2,rfl,hA,hq,hb2⟩;have HA:Hid (At w2 a2 (flat zac (remD m x))):=hA;have HQ:Hid (∀q,a2=some q->w.heap.size<=q.block):=fun q e=>aQ HB.out.size (hq q e)
 have HB2:Hid (Below w.heap.size w w2):=HB.out.trans (hb2.mono HB.out.size);clear hA hq hb2 HD;go_wp2;go_ret;exact⟨a2,c2,rfl,HA.out,HQ.out,HB2.out⟩
def setE(m:Lv)(op x:Int):Int×List Dt×Int:=if valE x ≠ 0 then(0, [],valE x) else if op=3 then(0,remD m x,0) else(x, [],0)
theorem zo5(p b:Nat)(m:Lv)(op x y:Int)(w:World)(h:Blk w p #[.map (some b)] 202)(hown:MpAt w b m)(hl:m.length<=1048576):
  Calls prog 245 #[.pointer (some ⟨p,0,none⟩),I op,I x,I y] w fun e w'=>EfOk w (setE m op x).1 (setE m op x).2.1 (setE m op x).2.2 e w':=by
 have HB0:Hid (Below w.heap.size w (w.alloc (.cells zeroE 128))):=(Below.refl _ _).alloc (ac _) _;have HK0:Hid (Blk (w.alloc (.cells zeroE 128)) w.heap.size zeroE 128):=heap_alloc_new w _;have HC:Hid (Calls prog 250 #[.pointer (some ⟨p,0,none⟩),I x] (w.alloc (.cells zeroE 128)) fun e w'=>zjm (w.alloc (.cells zeroE 128)) (remD m x) e w'):=ztj p b m x _ (h.kept HB0.out h.lt) (hown.below HB0.out) hl;have HN:Hid (setE m op x=if valE x ≠ 0 then(0, [],valE x) else if op=3 then(0,remD m x,0) else(x, [],0)):=rfl;clear h hown;go_enter func245,ntmps245;go_wp2_with fail
 refine(zd6 x _).mono ?_;rintro e w1 ⟨rfl,hw1⟩;rw [hw1];clear hw1 w1;generalize valE x=ve at *
 generalize remD m x=ds at *
 by_cases hv:ve=0
 ·subst hv
  by_cases hop:op=3
  ·have HN2:Hid (setE m op x=(0,ds,0)):=by show _=_;rw [HN.out,ap (by simp),aA hop]
   clear HN;have hob:(op==3)=true:=by simp [hop]
   clear hop;go_wp2_with fail
   refine HC.out.mono ?_;rintro e w1 ⟨a1,c1,rfl,hA,hq,hb1⟩;have HBW:Hid (Below w.heap.size w w1):=HB0.out.trans (hb1.mono HB0.out.size);have HKW:Hid (Blk w1 w.heap.size zeroE 128):=HK0.out.kept hb1 HK0.out.lt;have HA:Hid (At w1 a1 (flat zac ds)):=hA
   have HQ:Hid (∀q,a1=some q->w.heap.size<q.block):=fun q e=>by
    have:=hq q e;have h2:(w.alloc (.cells zeroE 128)).heap.size=w.heap.size+1:=by simp
    omega
   clear HC HB0 HK0 hb1 hA hq;have k0:w1.cell? ⟨w.heap.size,0,none⟩=some (.int .i64 0):=HKW.out.cell 0;have z0:=HKW.out.frozen 0;have k1:w1.cell? ⟨w.heap.size,1,none⟩=some (.int .i64 0):=HKW.out.cell 1;have z1:=HKW.out.frozen 1;have k2:w1.cell? ⟨w.heap.size,2,none⟩=some (.int .i64 0):=HKW.out.cell 2;have z2:=HKW.out.frozen 2;have k3:w1.cell? ⟨w.heap.size,3,none⟩=some (.int .i64 0):=HKW.out.cell 3;have z3:=HKW.out.frozen 3;have k4:w1.cell? ⟨w.heap.size,4,none⟩=some (.int .i64 0):=HKW.out.cell 4;have z4:=HKW.out.frozen 4;have k5:w1.cell? ⟨w.heap.size,5,none⟩=some (.int .i64 0):=HKW.out.cell 5;have z5:=HKW.out.frozen 5;have k6:w1.cell? ⟨w.heap.size,6,none⟩=some (.slice none 0 0):=HKW.out.cell 6;have z6:=HKW.out.frozen 6;go_wp2;have HF:Hid (Blk (putE w1 w.heap.size (I 0) (I 0) (I 0) (I 0) (I 0) (I 0) (.slice a1 ds.length c1)) w.heap.size #[I 0,I 0,I 0,I 0,I 0,I 0, .slice a1 ds.length c1] 128):=zb0 HKW.out _ _ _ _ _ _ _;have HG:Hid (w1.grownBy (putE w1 w.heap.size (I 0) (I 0) (I 0) (I 0) (I 0) (I 0) (.slice a1 ds.length c1)) (some w.heap.size)):=zdx _ _ _ _ _ _ _ _ _;have HY:Hid (Below w.heap.size w (putE w1 w.heap.size (I 0) (I 0) (I 0) (I 0) (I 0) (I 0) (.slice a1 ds.length c1))):=zbc HBW.out (ac _) _ _ _ _ _ _ _;unfold putE at HF HG HY;generalize (((((((w1.setCell ⟨w.heap.size,0,none⟩ (I 0)).setCell ⟨w.heap.size,1,none⟩ (I 0)).setCell ⟨w.heap.size,2,none⟩ (I 0)).setCell ⟨w.heap.size,3,none⟩ (I 0)).setCell ⟨w.heap.size,4,none⟩ (I 0)).setCell ⟨w.heap.size,5,none⟩ (I 0)).setCell ⟨w.heap.size,6,none⟩ (.slice a1 ds.length c1))=wF at *
   have f0:wF.cell? ⟨w.heap.size,0,none⟩=some (I 0):=HF.out.cell 0;have f1:wF.cell? ⟨w.heap.size,1,none⟩=some (I 0):=HF.out.cell 1;have f2:wF.cell? ⟨w.heap.size,2,none⟩=some (I 0):=HF.out.cell 2;have f3:wF.cell? ⟨w.heap.size,3,none⟩=some (I 0):=HF.out.cell 3;have f4:wF.cell? ⟨w.heap.size,4,none⟩=some (I 0):=HF.out.cell 4;have f5:wF.cell? ⟨w.heap.size,5,none⟩=some (I 0):=HF.out.cell 5;have f6:wF.cell? ⟨w.heap.size,6,none⟩=some (.slice a1 ds.length c1):=HF.out.cell 6;refine bodyPost_ret (v:= .tuple #[.agg #[I 0,I 0,I 0,I 0,I 0,I 0, .slice a1 ds.length c1],I 0]) (by simp [results,Tryz.results245,go_sem,f0,f1,f2,f3,f4,f5,f6]) rfl ?_;rw [HN2.out];refine⟨a1,c1,rfl,fun j u hj=> ?_,fun q e=>Nat.le_of_lt (HQ.out q e),HY.out⟩;obtain⟨g,o,e,hcell⟩:=HA.out j u hj;refine⟨g,o,e, ?_⟩;have hlt:=HQ.out _ e
   have hbl:=HG.out.block g (by
    rcases Nat.lt_or_ge g w1.heap.size with h | h
    ·exact h
    ·simp [World.cell?,Array.getElem?_eq_none h] at hcell) (fun e2=>by have:=Option.some.inj e2;simp at hlt;omega)
   unfold World.cell? at hcell ⊢;simp only [hbl];exact hcell
  ·have HN2:Hid (setE m op x=(x, [],0)):=by show _=_;rw [HN.out,ap (by simp),ap hop]
   clear HN HC;have hob:(op==3)=false:=by simp [hop]
   clear hop;obtain⟨w1,hw1⟩:∃w1,w.alloc (.cells zeroE 128)=w1:=⟨_,rfl⟩
   have HBW:Hid (Below w.heap.size w w1):=by rw [←hw1];exact HB0.out
   have HKW:Hid (Blk w1 w.heap.size zeroE 128):=by rw [←hw1];exact HK0.out
   rw [hw1];clear HB0 HK0 hw1;have k0:w1.cell? ⟨w.heap.size,0,none⟩=some (.int .i64 0):=HKW.out.cell 0;have z0:=HKW.out.frozen 0;have k1:w1.cell? ⟨w.heap.size,1,none⟩=some (.int .i64 0):=HKW.out.cell 1;have z1:=HKW.out.frozen 1;have k2:w1.cell? ⟨w.heap.size,2,none⟩=some (.int .i64 0):=HKW.out.cell 2;have z2:=HKW.out.frozen 2;have k3:w1.cell? ⟨w.heap.size,3,none⟩=some (.int .i64 0):=HKW.out.cell 3;have z3:=HKW.out.frozen 3;have k4:w1.cell? ⟨w.heap.size,4,none⟩=some (.int .i64 0):=HKW.out.cell 4;have z4:=HKW.out.frozen 4;have k5:w1.cell? ⟨w.heap.size,5,none⟩=some (.int .i64 0):=HKW.out.cell 5;have z5:=HKW.out.frozen 5;have k6:w1.cell? ⟨w.heap.size,6,none⟩=some (.slice none 0 0):=HKW.out.cell 6;have z6:=HKW.out.frozen 6;go_wp2;have HF:Hid (Blk (putE w1 w.heap.size (I 0) (I 0) (I x) (I 0) (I 0) (I 0) (.slice none 0 0)) w.heap.size #[I 0,I 0,I x,I 0,I 0,I 0, .slice none 0 0] 128):=zb0 HKW.out _ _ _ _ _ _ _;have HG:Hid (w1.grownBy (putE w1 w.heap.size (I 0) (I 0) (I x) (I 0) (I 0) (I 0) (.slice none 0 0)) (some w.heap.size)):=zdx _ _ _ _ _ _ _ _ _;have HY:Hid (Below w.heap.size w (putE w1 w.heap.size (I 0) (I 0) (I x) (I 0) (I 0) (I 0) (.slice none 0 0))):=zbc HBW.out (ac _) _ _ _ _ _ _ _;unfold putE at HF HG HY;generalize (((((((w1.setCell ⟨w.heap.size,0,none⟩ (I 0)).setCell ⟨w.heap.size,1,none⟩ (I 0)).setCell ⟨w.heap.size,2,none⟩ (I x)).setCell ⟨w.heap.size,3,none⟩ (I 0)).setCell ⟨w.heap.size,4,none⟩ (I 0)).setCell ⟨w.heap.size,5,none⟩ (I 0)).setCell ⟨w.heap.size,6,none⟩ (.slice none 0 0))=wF at *
   have f0:wF.cell? ⟨w.heap.size,0,none⟩=some (I 0):=HF.out.cell 0;have f1:wF.cell? ⟨w.heap.size,1,none⟩=some (I 0):=HF.out.cell 1;have f2:wF.cell? ⟨w.heap.size,2,none⟩=some (I x):=HF.out.cell 2;have f3:wF.cell? ⟨w.heap.size,3,none⟩=some (I 0):=HF.out.cell 3;have f4:wF.cell? ⟨w.heap.size,4,none⟩=some (I 0):=HF.out.cell 4;have f5:wF.cell? ⟨w.heap.size,5,none⟩=some (I 0):=HF.out.cell 5;have f6:wF.cell? ⟨w.heap.size,6,none⟩=some (.slice none 0 0):=HF.out.cell 6;refine bodyPost_ret (v:= .tuple #[.agg #[I 0,I 0,I x,I 0,I 0,I 0, .slice none 0 0],I 0]) (by simp [results,Tryz.results245,go_sem,f0,f1,f2,f3,f4,f5,f6]) rfl ?_;rw [HN2.out];exact⟨none,0,rfl,ze3 _,(fun q hq=>by cases hq),HY.out⟩
 ·have HN2:Hid (setE m op x=(0, [],ve)):=by show _=_;rw [HN.out,aA hv]
  clear HN HC;have hvb:(ve !=0)=true:=by simpa using hv
  obtain⟨w1,hw1⟩:∃w1,w.alloc (.cells zeroE 128)=w1:=⟨_,rfl⟩
  have HBW:Hid (Below w.heap.size w w1):=by rw [←hw1];exact HB0.out
  have HKW:Hid (Blk w1 w.heap.size zeroE 128):=by rw [←hw1];exact HK0.out
  rw [hw1];clear HB0 HK0 hw1;have k0:w1.cell? ⟨w.heap.size,0,none⟩=some (.int .i64 0):=HKW.out.cell 0;have z0:=HKW.out.frozen 0;have k1:w1.cell? ⟨w.heap.size,1,none⟩=some (.int .i64 0):=HKW.out.cell 1;have z1:=HKW.out.frozen 1;have k2:w1.cell? ⟨w.heap.size,2,none⟩=some (.int .i64 0):=HKW.out.cell 2;have z2:=HKW.out.frozen 2;have k3:w1.cell? ⟨w.heap.size,3,none⟩=some (.int .i64 0):=HKW.out.cell 3;have z3:=HKW.out.frozen 3;have k4:w1.cell? ⟨w.heap.size,4,none⟩=some (.int .i64 0):=HKW.out.cell 4;have z4:=HKW.out.frozen 4;have k5:w1.cell? ⟨w.heap.size,5,none⟩=some (.int .i64 0):=HKW.out.cell 5;have z5:=HKW.out.frozen 5;have k6:w1.cell? ⟨w.heap.size,6,none⟩=some (.slice none 0 0):=HKW.out.cell 6;have z6:=HKW.out.frozen 6;go_wp2;have HF:Hid (Blk (putE w1 w.heap.size (I 0) (I 0) (I 0) (I 0) (I 0) (I 0) (.slice none 0 0)) w.heap.size #[I 0,I 0,I 0,I 0,I 0,I 0, .slice none 0 0] 128):=zb0 HKW.out _ _ _ _ _ _ _;have HG:Hid (w1.grownBy (putE w1 w.heap.size (I 0) (I 0) (I 0) (I 0) (I 0) (I 0) (.slice none 0 0)) (some w.heap.size)):=zdx _ _ _ _ _ _ _ _ _;have HY:Hid (Below w.heap.size w (putE w1 w.heap.size (I 0) (I 0) (I 0) (I 0) (I 0) (I 0) (.slice none 0 0))):=zbc HBW.out (ac _) _ _ _ _ _ _ _;unfold putE at HF HG HY;generalize (((((((w1.setCell ⟨w.heap.size,0,none⟩ (I 0)).setCell ⟨w.heap.size,1,none⟩ (I 0)).setCell ⟨w.heap.size,2,none⟩ (I 0)).setCell ⟨w.heap.size,3,none⟩ (I 0)).setCell ⟨w.heap.size,4,none⟩ (I 0)).setCell ⟨w.heap.size,5,none⟩ (I 0)).setCell ⟨w.heap.size,6,none⟩ (.slice none 0 0))=wF at *
  have f0:wF.cell? ⟨w.heap.size,0,none⟩=some (I 0):=HF.out.cell 0;have f1:wF.cell? ⟨w.heap.size,1,none⟩=some (I 0):=HF.out.cell 1;have f2:wF.cell? ⟨w.heap.size,2,none⟩=some (I 0):=HF.out.cell 2;have f3:wF.cell? ⟨w.heap.size,3,none⟩=some (I 0):=HF.out.cell 3;have f4:wF.cell? ⟨w.heap.size,4,none⟩=some (I 0):=HF.out.cell 4;have f5:wF.cell? ⟨w.heap.size,5,none⟩=some (I 0):=HF.out.cell 5;have f6:wF.cell? ⟨w.heap.size,6,none⟩=some (.slice none 0 0):=HF.out.cell 6;refine bodyPost_ret (v:= .tuple #[.agg #[I 0,I 0,I 0,I 0,I 0,I 0, .slice none 0 0],I ve]) (by simp [results,Tryz.results245,go_sem,f0,f1,f2,f3,f4,f5,f6]) rfl ?_;rw [HN2.out];exact⟨none,0,rfl,ze3 _,(fun q hq=>by cases hq),HY.out⟩
