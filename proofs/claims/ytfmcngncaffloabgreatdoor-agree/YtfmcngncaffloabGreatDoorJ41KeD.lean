import Derived.Test.YtfmcngncaffloabGreatDoorJ03KeA
import Derived.Sort.MapsRangeIn
import Derived.WalkKit
import Derived.OwnWalkIn
import Derived.TacticsInMore
import Derived.RegionIn
import Derived.LoopNIn
import Derived.LoopIn
import Derived.Shelf.Abstract
import Derived.Shelf.SlIter.Collect
set_option maxHeartbeats 2000000
namespace Go.Proofs.YtfmcngncaffloabGreatDoor
open Go.RowKit Go.Proofs.Tryz Wv
set_option maxRecDepth 100000
section
variable {F : Fence} {n : Nat} (w : World) {ops : Array Oper} {rest : List Oper} {o : Oper} {a : Act} {Q : Exit -> Act -> World -> Prop}
theorem zdo(hg:o.guard=none)(x:Operand)(hop:o.op=Op.range 200 x)(b:Nat)(m:Lv)(hm:a.eval x= .map (some b))(h:MpAt w b m)
  (hK:∀w',RgAt w' b w.heap.size m [] m.length->w.grownBy w' none->w'.heap.size=w.heap.size+1->wpListIn F n prog ops Q rest (a.put o.dst (.pointer (some ⟨w.heap.size,0,none⟩))) w'):
  wpListIn F n prog ops Q (o::rest) a w:=by
 refine wpListIn_plain hg fun K' hK'=> ?_
 obtain⟨w',hrun,r1,r2,r3⟩:=zll w b m h;unfold Oper.wpIn;refine⟨?_, ?_⟩
 ·simp [Oper.about,hop]
 ·rw [Oper.semAt_plain F _ _ (by rw [hop];intro c hc';cases hc')]
  simp [execOp,hop,hm,hrun,Result.andThen];exact hK' _ _ (hK w' r1 r2 r3)
theorem zd7(hg:o.guard=none)(it:Operand)(hop:o.op=Op.next it false)(b r:Nat)(m ss:Lv)(left:Nat)(hit:a.eval it= .pointer (some ⟨r,0,none⟩))(h:RgAt w b r m ss left)
  (hDone:ss.Perm m->wpListIn F n prog ops Q rest (a.put o.dst (.tuple #[.bool false])) w)
  (hMore:∀(d:Dt) (v:Int) (w':World) (left':Nat),RgAt w' b r m (ss++ [(d,v)]) left'->left'<left->w.grownBy w' (some r)->w'.heap.size=w.heap.size->(Instr.entry (.pointer (some ⟨r,0,none⟩))).run prog w'= .ok (.tuple #[dotV d,I v]) w'->
   wpListIn F n prog ops Q rest (a.put o.dst (.tuple #[.bool true,dotV d,I v])) w'):
  wpListIn F n prog ops Q (o::rest) a w:=by
 refine wpListIn_plain hg fun K' hK'=> ?_
 unfold Oper.wpIn;refine⟨by simp [Oper.about,hop], ?_⟩;rw [Oper.semAt_plain F _ _ (by rw [hop];intro c hc';cases hc')];rcases znm w o.type b r m ss left h with⟨hp,hrun⟩ | ⟨d,v,w',left',hrun,hrg,hlt,hgr,hsz,hen⟩
 ·simp [execOp,hop,hit,hrun,Result.andThen]
  exact hK' _ _ (hDone hp)
 ·simp [execOp,hop,hit,hrun,Result.andThen]
  exact hK' _ _ (hMore d v w' left' hrg hlt hgr hsz hen)
end
def leftW(w:World)(b r:Nat):Nat:=
 match w.heap[b]?,w.heap[r]? with
 | some (.map es _),some (.mapIter _ _ seen _)=>(leftOf es seen).size
 | _,_=>0
theorem RgAt.left{w:World}{b r:Nat}{m ss:Lv}{left:Nat}(h:RgAt w b r m ss left):leftW w b r=left:=by
 obtain⟨es,clock,since,seen,c0,hb,_,_,hr,_,_,_,hl,_⟩:=h;simp only [leftW,hb,hr];exact hl
theorem zro(F:Fence)(n:Nat)(h10:F.fn 261)(hro:F.round=none)(hn:1<=n)(l Bm b:Nat)(m:Lv)(J:Lv->World->Prop)
  (hY:∀pre (x:Dt×Int) W,J pre W->pre.length<m.length->YieldAt F (n - 1) prog l #[I x.2] W fun e W'=>e= .returned (.bool true)∧J (pre++ [x]) W'∧KeepsWalks W W')
  (W:World) (hJ:AbidesFrom W.heap.size J) (hm:W.cell? ⟨Bm,0,none⟩=some (.map (some b))) (hown:MpAt W b m) (h0:J [] W):
  CallsIn F n prog 261 #[.func (.yield l) #[] #[], .pointer (some ⟨Bm,0,none⟩)] W fun e W'=>(∃v,e= .returned v)∧∃ss:Lv,ss.Perm m∧J ss W':=by
 refine callsIn_of_wp func261 rfl h10 ?_ hro;simp only [ntmps261,List.size_toArray,aJ,List.length_nil,Nat.reduceAdd,Nat.reduceSub,Array.replicate_succ,Array.replicate_zero,List.push_toArray,List.append_toArray,List.nil_append,aR]
 gi_wp2_with (first
  | (gi_at_range;refine zdo _ rfl _ rfl b m rfl hown ?_;intro w0 hrg0 hg0 hs0)
  | gi_in)
 go_frame
 gi_loopw [4] (fun _ wr=>∃(left:Nat) (ss:Lv),RgAt wr b W.heap.size m ss left∧J ss wr) (fun _ wr=>leftW wr b W.heap.size)
 case atStart=>
  exact⟨_, [],hrg0,hJ [] W w0 none h0 hg0 (fun r e=>by cases e)⟩
 case round=>
  obtain⟨left,ss,hrg,hJs⟩:=hrel
  gi_wp2_with (first
   | (gi_at_next;refine zd7 _ rfl _ rfl b W.heap.size m ss left rfl hrg ?_ ?_)
   | gi_in)
  ·intro hp
   gi_wp2
   go_end0;exact⟨⟨_,rfl⟩,ss,hp,hJs⟩
  ·intro d v w2 left2 hrg2 hlt hg2 hs2 hen
   have hJ2:J ss w2:=hJ ss wr w2 (some W.heap.size) hJs hg2 (fun r e=>by cases e;exact⟨ac _,hrg.iter⟩);obtain⟨fn,tmps,assign,body,hy,hR⟩:=hY ss (d,v) w2 hJ2 (by have:=hrg.count;omega);clear hs2;gi_wp2
   refine hR.mono ?_;rintro e W3 ⟨rfl,hJ3,hk3⟩;gi_wp2
   have hrg3:=hrg2.same hk3;go_roundw
   case rel=>exact⟨left2,ss++ [(d,v)],hrg3,hJ3⟩
   case measure=>rw [hrg3.left,hrg.left];exact hlt
theorem zz3(F:Fence)(n:Nat)(h10:F.fn 271)(hro:F.round=none)(hn:1<=n)(l Bm b:Nat)(m:Lv)(J:Lv->World->Prop)
  (hY:∀pre (x:Dt×Int) W,J pre W->pre.length<m.length->YieldAt F (n - 1) prog l #[dotV x.1] W fun e W'=>e= .returned (.bool true)∧J (pre++ [x]) W'∧KeepsWalks W W')
  (W:World) (hJ:AbidesFrom W.heap.size J) (hm:W.cell? ⟨Bm,0,none⟩=some (.map (some b))) (hown:MpAt W b m) (h0:J [] W):
  CallsIn F n prog 271 #[.func (.yield l) #[] #[], .pointer (some ⟨Bm,0,none⟩)] W fun e W'=>(∃v,e= .returned v)∧∃ss:Lv,ss.Perm m∧J ss W':=by
 refine callsIn_of_wp func271 rfl h10 ?_ hro;simp only [ntmps271,List.size_toArray,aJ,List.length_nil,Nat.reduceAdd,Nat.reduceSub,Array.replicate_succ,Array.replicate_zero,List.push_toArray,List.append_toArray,List.nil_append,aR]
 gi_wp2_with (first
  | (gi_at_range;refine zdo _ rfl _ rfl b m rfl hown ?_;intro w0 hrg0 hg0 hs0)
  | gi_in)
 go_frame
 gi_loopw [3] (fun _ wr=>∃(left:Nat) (ss:Lv),RgAt wr b W.heap.size m ss left∧J ss wr) (fun _ wr=>leftW wr b W.heap.size)
 case atStart=>
  exact⟨_, [],hrg0,hJ [] W w0 none h0 hg0 (fun r e=>by cases e)⟩
 case round=>
  obtain⟨left,ss,hrg,hJs⟩:=hrel
  gi_wp2_with (first
   | (gi_at_next;refine zd7 _ rfl _ rfl b W.heap.size m ss left rfl hrg ?_ ?_)
   | gi_in)
  ·intro hp
   gi_wp2
   go_end0;exact⟨⟨_,rfl⟩,ss,hp,hJs⟩
  ·intro d v w2 left2 hrg2 hlt hg2 hs2 hen
   have hJ2:J ss w2:=hJ ss wr w2 (some W.heap.size) hJs hg2 (fun r e=>by cases e;exact⟨ac _,hrg.iter⟩);have hJ2':J ss (w2.alloc (.cells #[I d.o,I d.s,I d.i] 125)):=hJ ss w2 _ none hJ2 (World.grownBy_alloc w2 _ none) (fun r e=>by cases e);have hrg2':=hrg2.same (KeepsWalks.alloc w2 (.cells #[I d.o,I d.s,I d.i] 125));obtain⟨fn,tmps,assign,body,hy,hR⟩:=hY ss (d,v) _ hJ2' (by have:=hrg.count;omega);clear hs2;gi_wp2
   refine hR.mono ?_;rintro e W3 ⟨rfl,hJ3,hk3⟩;gi_wp2
   have hrg3:=hrg2'.same hk3;go_roundw
   case rel=>exact⟨left2,ss++ [(d,v)],hrg3,hJ3⟩
   case measure=>rw [hrg3.left,hrg.left];exact hlt
theorem zz9:(prog.info? 125).map (fun i=>(i.zero,i.size,i.bytes))=some (some (.agg #[.int .i64 0, .int .i64 0, .int .i64 0]),3,24):=by kernel_rfl
theorem zs8(l:List Dt)(x:Dt):flat zac (l++ [x])=flat zac l++zac x:=by
 induction l with
 | nil=>simp [flat]
 | cons a r ih=>simp [flat,ih]
theorem zoe(w:World)(d:Dt)(t:TypeId):∀j u,(zac d)[j]?=some u->(w.alloc (.cells #[I d.o,I d.s,I d.i] t)).cell? ((⟨w.heap.size,0,none⟩:Addr).add j)=some u:=by
 intro j u hj
 have h:(w.alloc (.cells #[I d.o,I d.s,I d.i] t)).cell? ((⟨w.heap.size,0,none⟩:Addr).add j)=(#[I d.o,I d.s,I d.i]:Array Value)[j]?:=by
  have hn:(w.alloc (.cells #[I d.o,I d.s,I d.i] t)).heap[w.heap.size]?=some (.cells #[I d.o,I d.s,I d.i] t (0,0)):=(MapKept.heap_alloc w _).1;by_cases h0:j=0
  ·subst h0
   simp only [World.cell?,Addr.add,if_true,hn];simp
  ·simp only [World.cell?,Addr.add,h0,if_false,hn]
   simp
 rw [h];simpa [zac] using hj
def zlg : Code := (Code.region 2 #[{ dst := some 5, op := Op.alloc 125, type := 0, pos := "iter.go:51", after := #[], guard := none }, { dst := none, op := Op.store 125 (Operand.tmp 5) (Operand.tmp 7), type := 0, pos := "iter.go:51", after := #[{ on := 0, ground := Ground.data }, { on := 0, ground := Ground.phase }], guard := none }] false)
def zt0 : Code := (Code.block 1 (Code.region 3 #[{ dst := some 8, op := Op.load 126 (Operand.tmp 2), type := 126, pos := "iter.go:52", after := #[], guard := none }, { dst := some 9, op := Op.load 125 (Operand.tmp 5), type := 125, pos := "iter.go:52", after := #[], guard := none }, { dst := some 10, op := Op.buildSlice 126 1 #[(0, Operand.tmp 9)], type := 126, pos := "iter.go:52", after := #[{ on := 1, ground := Ground.data }], guard := none }, { dst := some 11, op := Op.call { callee := Callee.builtin Builtin.append, args := #[Operand.tmp 8, Operand.tmp 10], argTypes := #[126, 126] }, type := 126, pos := "iter.go:52", after := #[{ on := 0, ground := Ground.data }, { on := 2, ground := Ground.data }], guard := none }, { dst := none, op := Op.store 126 (Operand.tmp 2) (Operand.tmp 11), type := 0, pos := "iter.go:52", after := #[{ on := 3, ground := Ground.data }, { on := 3, ground := Ground.chain }, { on := 0, ground := Ground.phase }, { on := 1, ground := Ground.phase }, { on := 2, ground := Ground.phase }, { on := 3, ground := Ground.phase }], guard := none }] false))
def apRec(fn:FuncId)(sv:Value)(Bs D:Nat)(st:LoopState)(pend:Option Code):Loop:=
 {state:=st,pending:=pend,fn,tmps:= #[.slice none 0 0,sv, .pointer (some ⟨Bs,0,none⟩),undef, .slice none 0 0,undef,sv,undef,undef,undef,undef,undef,undef],params:= #[7],assign:=zlg,body:=zt0,defers:=D}
structure ApAt(w0:World)(fn:FuncId)(sv:Value)(Bs l D:Nat)(ss:Lv)(W:World):Prop where
 box:∃v,W.heap[Bs]?=some (.cells #[v] 126 (0,0))∧W.ownsRow w0.heap.size 125 3 v ss.length (flat zac (ss.map (·.1)))∧(v= .slice none 0 0↔ss= [])
 L:W.heap[l]?=some (.loop (apRec fn sv Bs D .ready none))
 K:W.heap[D]?=some (.deferred (some []))
 below:Below w0.heap.size w0 W
theorem zm4(w0:World)(fn:FuncId)(sv:Value)(Bs l D B:Nat)(hB:w0.heap.size<=B):AbidesFrom B (ApAt w0 fn sv Bs l D):=fun s W W' row h hg hrow=>by
 have hrow':∀r,row=some r->∃o:Obj,W.heap[r]?=some o∧o.isWalk=true:=fun r e=>(hrow r e).2
 obtain⟨v,hv,hr,hn⟩:=h.box
 exact⟨⟨v,(grownBy_keeps hg hrow' hv rfl).trans hv,ownsRow_abides_a hr hg hrow',hn⟩,(grownBy_keeps hg hrow' h.L rfl).trans h.L,(grownBy_keeps hg hrow' h.K rfl).trans h.K,
  h.below.grown hg h.below.size (fun k e=>aQ hB (hrow k e).1)⟩
theorem apYield(F:Fence)(m:Nat)(w0:World)(fn:FuncId)(hfn:F.fn fn)(sv:Value)(Bs l D:Nat)(hBl:Bs ≠ l)(hDl:D ≠ l)(hDB:D ≠ Bs)(h0B:w0.heap.size<=Bs)(h0l:w0.heap.size<=l)
    (N:Nat) (hN:N<=maxLen) (hNb:N*24<=140737488355328) (ss:Lv) (x:Dt×Int) (W:World) (h:ApAt w0 fn sv Bs l D ss W) (hlen:ss.length<N):
    YieldAt F m prog l #[dotV x.1] W fun e W'=>e= .returned (.bool true)∧ApAt w0 fn sv Bs l D (ss++ [x]) W'∧KeepsWalks W W':=by
  have hne:(126:TypeId)≠ 125:=by decide
  obtain⟨i0,hi,hz0,hz1,hz2⟩:=info_parts zz9;refine⟨fn, #[.slice none 0 0,sv, .pointer (some ⟨Bs,0,none⟩),undef, .slice none 0 0,undef,sv,dotV x.1,undef,undef,undef,undef,undef],zlg,zt0,by simpa [apRec] using run_yield (P:=prog) (args:= #[dotV x.1]) h.L rfl,roundIn_of_wpIn hfn ?_⟩;obtain⟨WA,hWA⟩:∃WA,W.alloc (.cells #[I x.1.o,I x.1.s,I x.1.i] 125)=WA:=⟨_,rfl⟩
  have hgA:W.grownBy WA none:=by rw [←hWA];exact World.grownBy_alloc W _ none
  have hA:ApAt w0 fn sv Bs l D ss WA:=zm4 w0 fn sv Bs l D w0.heap.size (ac _) ss W WA none h hgA (fun r e=>by cases e);have hkA:KeepsWalks W WA:=by rw [←hWA];exact KeepsWalks.alloc _ _
  have hnA:WA.heap[W.heap.size]?=some (.cells #[I x.1.o,I x.1.s,I x.1.i] 125 (0,0)):=by rw [←hWA];exact(MapKept.heap_alloc W _).1
  have hlW:l<W.heap.size:=(am.1 h.L).1;obtain⟨v,hv,hrow,_⟩:=hA.box;have hl:l<WA.heap.size:=(am.1 hA.L).1;have hbr:=run_beginRound (P:=prog) hA.L rfl;obtain⟨W2,hW2⟩:∃W2,WA.putObj l (.loop {apRec fn sv Bs D .ready none with state:= .busy})=W2:=⟨_,rfl⟩
  rw [hW2] at hbr;have hg2:WA.grownBy W2 (some l):=by rw [←hW2];exact grownBy_putObj_a _ _ _
  have hk2:KeepsWalks WA W2:=by rw [←hW2];exact KeepsWalks.putObj _ hA.L rfl
  have hn2:W2.heap[W.heap.size]?=some (.cells #[I x.1.o,I x.1.s,I x.1.i] 125 (0,0)):=by rw [←hW2];exact(World.putObj_heap_other (by omega)).trans hnA
  have d0:W2.cell? ⟨W.heap.size,0,none⟩=some (I x.1.o):=by simp [World.cell?,hn2]
  have d1:W2.cell? ⟨W.heap.size,1,none⟩=some (I x.1.s):=by simp [World.cell?,hn2]
  have d2:W2.cell? ⟨W.heap.size,2,none⟩=some (I x.1.i):=by simp [World.cell?,hn2]
  have hv2:W2.heap[Bs]?=some (.cells #[v] 126 (0,0)):=by rw [←hW2];exact(World.putObj_heap_other hBl).trans hv
  have hK2:W2.heap[D]?=some (.deferred (some [])):=by rw [←hW2];exact(World.putObj_heap_other hDl).trans hA.K
  have hL2:W2.heap[l]?=some (.loop {apRec fn sv Bs D .ready none with state:= .busy}):=by rw [←hW2];exact World.putObj_heap_same hl
  have hrow2:W2.ownsRow w0.heap.size 125 3 v ss.length (flat zac (ss.map (·.1))):=hrow.kept hg2 (ownsRow_ne_a hrow hA.L (fun cur e=>by first | cases e | exact hne (Obj.cells.inj e).2.1));have hb2:Below w0.heap.size w0 W2:=hA.below.grown hg2 hA.below.size (fun k e=>by cases e;exact h0l);obtain⟨hc2,hf2⟩:=cell_of_box_a hv2;have hBlt:Bs<W2.heap.size:=(am.1 hv2).1;have hl2:l<W2.heap.size:=(am.1 hL2).1;have hDlt:D<W2.heap.size:=(am.1 hK2).1
  have ne_of:∀{j:Nat} {o:Obj},W2.heap[j]?=some o->(∀cur,o ≠ .cells cur 125 (0,0))->some j ≠ v.ownBlock:=fun hj hno=>by
    rcases ownsRow_ne_a hrow2 hj hno with e | e
    . rw [e];simp
    . exact fun e'=>e e'.symm
  clear hW2;unfold zlg;gi_wp2_with gi_round_op_a
  clear hWA hgA hnA hn2;unfold zt0
  gi_wp2_with (first
    | (gi_at_builtin;refine wpListIn_append_own _ rfl _ _ 126 rfl w0.heap.size 125 i0 (.agg #[.int .i64 0, .int .i64 0, .int .i64 0]) 3 24 underlying126 hi hz0 hz1 hz2 rfl (by decide) _ _ _ rfl (hrow2.alloc _) ⟨W2.heap.size,0,none⟩ 1 1 (zac x.1) rfl rfl (zoe _ _ _) (by simp [Value.oneCell',zac]) (by omega) (by omega) (by have:=hb2.size;simp;omega) ?_;intro v' w3 hown' hg3 hnil3
       have hv3:w3.heap[Bs]?=some (.cells #[v] 126 (0,0)):=(hg3.block Bs (by simp;omega) (ne_of hv2 (fun cur e=>by first | cases e | exact hne (Obj.cells.inj e).2.1))).trans ((Below.heap_alloc _ _ Bs hBlt).trans hv2);obtain⟨hc3,hf3⟩:=cell_of_box_a hv3
       obtain⟨g',cap',cur',rfl,hbase',hgb',hr1,hr2,hr3,hr4⟩:∃g' cap' cur',v'= .slice (some ⟨g',0,none⟩) (ss.length+1) cap'∧w0.heap.size<=g'∧w3.heap[g']?=some (.cells cur' 125 (0,0))∧ss.length+1<=cap'∧cap'<=maxLen∧cur'.size=cap'*3∧cur'.toList.take ((ss.length+1)*3)=flat zac (ss.map (·.1))++zac x.1:=by
         rcases hown'.2 with⟨_,h0⟩ | h'
         . exact absurd h0 (by omega)
         . exact h'
       go_frame)
    | gi_round_op_a)
  have hg3':(W2.alloc (.cells #[I x.1.o,I x.1.s,I x.1.i] 125)).grownBy w3 v.ownBlock:=hg3;have hL3:w3.heap[l]?=some (.loop {apRec fn sv Bs D .ready none with state:= .busy}):=(hg3'.block l (by simp;omega) (ne_of hL2 (fun cur e=>by first | cases e | exact hne (Obj.cells.inj e).2.1))).trans ((Below.heap_alloc _ _ l hl2).trans hL2);have hK3:w3.heap[D]?=some (.deferred (some [])):=(hg3'.block D (by simp;omega) (ne_of hK2 (fun cur e=>by first | cases e | exact hne (Obj.cells.inj e).2.1))).trans ((Below.heap_alloc _ _ D hDlt).trans hK2);obtain⟨w4,hw4⟩:∃w4,w3.setCell ⟨Bs,0,none⟩ (.slice (some ⟨g',0,none⟩) (ss.length+1) cap')=w4:=⟨_,rfl⟩
  rw [hw4];have hg4:w3.grownBy w4 (some Bs):=by rw [←hw4];exact grownBy_setCell0_a _ _ _
  have hv4:w4.heap[Bs]?=some (.cells #[.slice (some ⟨g',0,none⟩) (ss.length+1) cap'] 126 (0,0)):=by rw [←hw4];exact heap_setCell_box_a _ hv3
  have hL4:w4.heap[l]?=some (.loop {apRec fn sv Bs D .ready none with state:= .busy}):=(hg4.block l (am.1 hL3).1 (fun e=>hBl (by cases e;rfl))).trans hL3;have hK4:w4.heap[D]?=some (.deferred (some [])):=(hg4.block D (am.1 hK3).1 (fun e=>hDB (by cases e;rfl))).trans hK3;have hrow4:=hown'.kept hg4 (ownsRow_ne_a hown' hv3 (fun cur e=>by first | cases e | exact hne (Obj.cells.inj e).2.1));have hl4:l<w4.heap.size:=(am.1 hL4).1;have hb3:Below w0.heap.size w0 w3:=(hb2.alloc hb2.size _).grown hg3' (by have:=hb2.size;simp;omega) (fun k e=>(hrow2.lt k e).1);have hb4:Below w0.heap.size w0 w4:=hb3.grown hg4 hb3.size (fun k e=>by cases e;exact h0B);have hk4:KeepsWalks W w4:=(hkA.trans ((hk2.trans (KeepsWalks.alloc _ _)).trans (KeepsWalks.of_grownBy hg3' (ownsRow_not_walk_a (hrow2.alloc _))))).trans (by rw [←hw4];exact KeepsWalks.setCell _ _ _);clear hw4;refine⟨_,_,run_endRound none hL4,rfl,⟨⟨_,(World.putObj_heap_other hBl).trans hv4, ?_,by simp⟩,World.putObj_heap_same hl4,(World.putObj_heap_other hDl).trans hK4,hb4.grown (grownBy_putObj_a _ _ _) hb4.size (fun k e=>by cases e;exact h0l)⟩,hk4.trans (KeepsWalks.putObj _ hL4 rfl)⟩;have:=hrow4.kept (grownBy_putObj_a w4 l (.loop {{apRec fn sv Bs D .ready none with state:= .busy} with state:=if (none:Option Code).isNone then .ready else .done,pending:=none})) (ownsRow_ne_a hrow4 hL4 (fun cur e=>by first | cases e | exact hne (Obj.cells.inj e).2.1));simpa [zs8] using this
theorem zog(F:Fence)(n:Nat)(h11:F.fn 282)(hro:F.round=none)(hn:2<=n)(g:Nat)(lb:Array Value)(hFg:F.fn g)(eg:∀args w,(callFunc g args).run prog w= .ok (.enter g args) w)
  (S:Lv->Prop) (N:Nat) (hN:N<=maxLen) (hNb:N*24<=140737488355328) (w:World) (hseq:SeqGives F (n - 1) prog g lb (fun x:Dt×Int=>dotV x.1) S N w):
  CallsIn F n prog 282 #[.slice none 0 0, .func (.func g) #[] lb] w fun e w'=>∃(v:Value) (ss:Lv),e= .returned v∧S ss∧w'.ownsRow w.heap.size 125 3 v ss.length (flat zac (ss.map (·.1)))∧(v= .slice none 0 0↔ss= [])∧Below w.heap.size w w':=by
 have h1:1<=n:=by omega
 have hne:(126:TypeId)≠ 125:=by decide
 refine callsIn_of_wp_marks func282 rfl h11 ?_ hro;simp only [ntmps282,List.size_toArray,aJ,List.length_nil,Nat.reduceAdd,Nat.reduceSub,Array.replicate_succ,Array.replicate_zero,List.push_toArray,List.append_toArray,List.nil_append,aR];gi_wp2
 refine wpIn_rangeFunc ?_;intro fn hfn;rw [hro];obtain⟨W0,hW0⟩:∃W0,w.alloc (.cells #[.slice none 0 0] 126)=W0:=⟨_,rfl⟩
 have hs0:W0.heap.size=w.heap.size+1:=by rw [←hW0];simp
 have hv0:W0.heap[w.heap.size]?=some (.cells #[.slice none 0 0] 126 (0,0)):=by rw [←hW0];exact World.alloc_heap_new w _
 have hb0:Below w.heap.size w W0:=by rw [←hW0];exact(Below.refl _ w).alloc (ac _) _
 rw [hW0];obtain⟨W1,hW1⟩:∃W1,(W0.alloc (.deferred (some []))).alloc (.loop (apRec fn (.func (.func g) #[] lb) w.heap.size W0.heap.size .ready none))=W1:=⟨_,rfl⟩
 have hold:∀k,k<W0.heap.size->W1.heap[k]?=W0.heap[k]?:=fun k hk=>by
  rw [←hW1];exact(Below.heap_alloc _ _ k (by simp;omega)).trans (Below.heap_alloc _ _ k hk)
 have hb1:Below w.heap.size w W1:=by rw [←hW1];exact(hb0.alloc hb0.size _).alloc (by have:=hb0.size;simp;omega) _
 have hs1:W1.heap.size=W0.heap.size+2:=by rw [←hW1];simp
 have hM:ApAt w fn (.func (.func g) #[] lb) w.heap.size (W0.heap.size+1) W0.heap.size [] W1:=
  ⟨⟨_,(hold w.heap.size (by omega)).trans hv0,⟨rfl, .inl ⟨rfl,rfl⟩⟩,by simp⟩,
   by rw [←hW1];have:=World.alloc_heap_new (W0.alloc (.deferred (some []))) (.loop (apRec fn (.func (.func g) #[] lb) w.heap.size W0.heap.size .ready none));rwa [World.size_alloc] at this,
   by rw [←hW1];exact(Below.heap_alloc _ _ _ (by simp)).trans (World.alloc_heap_new W0 _),hb1⟩
 refine⟨W0.heap.size+1, [{target:= .collected W0.heap.size,args:= #[]}],W1,{target:= .fn (.func g) lb,args:= #[.func (.yield (W0.heap.size+1)) #[] #[]]},W1,g,
  #[.func (.yield (W0.heap.size+1)) #[] #[]]++lb,W1, ?_, ?_, ?_, ?_,fun _=>h1, ?_⟩
 ·rw [←hW1];exact run_enterLoop_outer _ _ _ _ _
 ·simp [resolve,go_sem]
 ·intro f' hf';simp [Target.leads] at hf';subst hf';exact hFg
 ·simp [invoke,go_sem,eg]
 ·refine(hseq (W0.heap.size+1) (ApAt w fn (.func (.func g) #[] lb) w.heap.size (W0.heap.size+1) W0.heap.size) W1 hb1 (zm4 _ _ _ _ _ _ _ hb1.size)
   (fun pre x W hJ hl=>apYield F (n - 1 - 1) w fn hfn _ w.heap.size (W0.heap.size+1) W0.heap.size (by omega) (by omega) (by omega) (ac _) (by omega) N hN hNb pre x W hJ hl) hM).mono ?_
  rintro e W2 ⟨⟨v0,rfl⟩,ss,hS,h2⟩;obtain⟨v,hv,hrow,hnil⟩:=h2.box;have hend:=run_endLoop (P:=prog) h2.L (by simp [apRec]);obtain⟨W3,hW3⟩:∃W3,W2.putObj (W0.heap.size+1) (.loop {apRec fn (.func (.func g) #[] lb) w.heap.size W0.heap.size .ready none with state:= .exhausted})=W3:=⟨_,rfl⟩
  rw [hW3] at hend;have hg3:W2.grownBy W3 (some (W0.heap.size+1)):=by rw [←hW3];exact grownBy_putObj_a _ _ _
  have hv3:W3.heap[w.heap.size]?=some (.cells #[v] 126 (0,0)):=by rw [←hW3];exact(World.putObj_heap_other (by omega)).trans hv
  have hK3:W3.heap[W0.heap.size]?=some (.deferred (some [])):=by rw [←hW3];exact(World.putObj_heap_other (by omega)).trans h2.K
  have hrow3:=hrow.kept hg3 (ownsRow_ne_a hrow h2.L (fun cur e=>by first | cases e | exact hne (Obj.cells.inj e).2.1));have hb3:Below w.heap.size w W3:=h2.below.grown hg3 h2.below.size (fun k e=>by cases e;omega);obtain⟨hc3,hf3⟩:=cell_of_box_a hv3;clear hW3;refine⟨none,W3,hend, ?_⟩;gi_wp2
  rw [←hs0];refine⟨by simp, .inl ⟨_,_,rfl,run_takeDeferred hK3, ?_⟩⟩;exact⟨_,results_tmp rfl _ _ _,v,ss,rfl,hS,hrow3.kept (grownBy_putObj_a _ _ _) (ownsRow_ne_a hrow3 hK3 (fun cur e=>by first | cases e | exact hne (Obj.cells.inj e).2.1)),hnil,hb3.grown (grownBy_putObj_a _ _ _) hb3.size (fun k e=>by cases e;omega)⟩
theorem ztv(F:Fence)(n:Nat)(h8:F.fn 269)(h11:F.fn 282)(hro:F.round=none)(hn:3<=n)(g:Nat)(lb:Array Value)(hFg:F.fn g)(eg:∀args w,(callFunc g args).run prog w= .ok (.enter g args) w)
  (S:Lv->Prop) (N:Nat) (hN:N<=maxLen) (hNb:N*24<=140737488355328) (w:World) (hseq:SeqGives F (n - 1 - 1) prog g lb (fun x:Dt×Int=>dotV x.1) S N w):
  CallsIn F n prog 269 #[.func (.func g) #[] lb] w fun e w'=>∃(v:Value) (ss:Lv),e= .returned v∧S ss∧w'.ownsRow w.heap.size 125 3 v ss.length (flat zac (ss.map (·.1)))∧(v= .slice none 0 0↔ss= [])∧Below w.heap.size w w':=by
 have h1:1<=n:=by omega
 have hap:=zog F (n - 1) h11 hro (by omega) g lb hFg eg S N hN hNb w hseq;refine callsIn_of_wp func269 rfl h8 ?_ hro;simp only [ntmps269,List.size_toArray,aJ,List.length_nil,Nat.reduceAdd,Nat.reduceSub,Array.replicate_succ,Array.replicate_zero,List.push_toArray,List.append_toArray,List.nil_append,aR];gi_wp2_with (gi_at_call 282;refine hap.mono ?_;rintro e w' ⟨v,ss,rfl,hS,hrow,hnil,hb⟩)
 go_ret;exact⟨v,ss,rfl,hS,hrow,hnil,hb⟩
theorem zso(F:Fence)(n:Nat)(h10:F.fn 271)(hro:F.round=none)(hn:1<=n)(Bm b:Nat)(m:Lv)(w:World)(hBm:Bm<w.heap.size)(hm:w.cell? ⟨Bm,0,none⟩=some (.map (some b)))(hown:MpAt w b m):
  SeqGives F n prog 271 #[.pointer (some ⟨Bm,0,none⟩)] (fun x:Dt×Int=>dotV x.1) (fun ss=>ss.Perm m) m.length w:=fun l J W hW hJ hY h0=>
 zz3 F n h10 hro hn l Bm b m J hY W hJ ((hW.cell (p:=⟨Bm,0,none⟩) hBm).trans hm) (hown.same (hW.block b hown.lt)) h0
theorem znf(F:Fence)(n:Nat)(h10:F.fn 261)(hro:F.round=none)(hn:1<=n)(Bm b:Nat)(m:Lv)(w:World)(hBm:Bm<w.heap.size)(hm:w.cell? ⟨Bm,0,none⟩=some (.map (some b)))(hown:MpAt w b m):
  SeqGives F n prog 261 #[.pointer (some ⟨Bm,0,none⟩)] (fun x:Int=>I x) (fun xs=>xs.Perm (m.map (·.2))) m.length w:=fun l J W hW hJ hY h0=>
 (zro F n h10 hro hn l Bm b m (fun ss=>J (ss.map (·.2))) (fun pre x W1 hj hl=>by
   have:=hY (pre.map (·.2)) x.2 W1 hj (by simpa using hl)
   simpa using this) W (fun s W1 W2 row hs hg hr=>hJ _ W1 W2 row hs hg hr) ((hW.cell (p:=⟨Bm,0,none⟩) hBm).trans hm) (hown.same (hW.block b hown.lt)) h0).mono (fun e W' ⟨he,ss,hp,hj⟩=>⟨he,ss.map (·.2),hp.map _,hj⟩)
