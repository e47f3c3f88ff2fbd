import Derived.Test.YtfmcngncaffloabGreatDoorJ02BkF
import Derived.ShutString
import Derived.Lib.SmallJoins
import Derived.Laws.CopyOwn
import Derived.Laws.OwnMore
import Derived.Deep.MidRow
import Derived.Maps.AppendAt
import Derived.Conc.LoneCalls
import Derived.Conc.LoneSelect
import Derived.Lib.ConvBytes
import Derived.Shelf.LaysM
import Derived.Shelf.Strconv.Itoa3
import Derived.Ground.Names2Prog
import Derived.Lib.LaidTab
import Derived.Maps.RangeRun
import Derived.RangeFuncGives
import Derived.Deep.Slices
import Derived.Deep.Strs
import Derived.SizedLaws
import Derived.Test.YtfmcngncaffloabGreatDoorRows
import Derived.OpenShut
import Derived.Stop.LaidTwo
set_option maxHeartbeats 400000
namespace Go.Proofs.YtfmcngncaffloabGreatDoor
open Go.RowKit Wv
set_option maxRecDepth 100000
abbrev B8 (b:UInt8):Value:= .int .u8 (b.toNat:Int)
theorem zg3(w:World)(a:Addr)(cap:Nat)(l:List UInt8)(hc:∀j u,(l.map B8)[j]?=some u->w.cell? (a.add j)=some u):
  (convert 191 9 (.slice (some a) l.length cap)).run Tryz.prog w= .ok (.string ⟨l.toArray⟩) w:=
 run_convert_bytes_back w _ _ _ a cap l Tryz.underlying191 Tryz.underlying5 Tryz.underlying9 (fun j hj=>hc j _ (by simp [hj]))
theorem conv_lit(w:World)(l:List UInt8)(cs:Array Value)(k cap:Nat)(hk:k=l.length)(hcs:cs=(l.map B8).toArray):
  (convert 191 9 (.slice (some ⟨w.heap.size,0,none⟩) k cap)).run Tryz.prog (w.alloc (.cells cs 5))= .ok (.string ⟨l.toArray⟩) (w.alloc (.cells cs 5)):=by
 subst hk hcs;refine zg3 _ _ _ l fun j u hu=> ?_
 rw [Addr.add_lit,aV,World.cell?_alloc_mark];simpa using hu
theorem zud{a b:ByteArray}(h:a=b):Ending.returned (.string a)= .returned (.string b):=by rw [h]
theorem zgs(a b:List UInt8):(⟨a.toArray⟩++⟨b.toArray⟩:ByteArray)=⟨(a++b).toArray⟩:=by
 apply ByteArray.ext;simp [ByteArray.data_append]
theorem str_eta(s:ByteArray):s=⟨s.data.toList.toArray⟩:=by apply ByteArray.ext;simp
theorem zhd(s:ByteArray)(w:World)(hs:s.size<=1048576):
  Calls Tryz.prog 131 #[.string s] w fun e w'=>e= .returned (.string ⟨(s.data.toList++be4 (Wv.sum s.data.toList:Nat)).toArray⟩)∧Below w.heap.size w w':=by
 have hq:=conv_lit w (be4 (Wv.sum s.data.toList:Nat)) #[.int .u8 ((Wv.sum s.data.toList:Int) / 16777216 % 256), .int .u8 ((Wv.sum s.data.toList:Int) / 65536 % 256), .int .u8 ((Wv.sum s.data.toList:Int) / 256 % 256), .int .u8 ((Wv.sum s.data.toList:Int) % 256)] 4 4 rfl
  (by simp only [be4,B8,List.map,ofNat_toNat])
 have hm:s.size<=maxLen:=by unfold maxLen;omega
 have hle:¬9223372036854775807<s.size+(be4 (Wv.sum s.data.toList:Nat)).length:=by simp [be4];omega
 go_enter Tryz.func131,Tryz.ntmps131;go_wp2_with (go_at_call 168;refine(of_any _ _ hm).mono ?_;rintro e w' ⟨rfl,h⟩;subst h)
 go_ret;exact⟨zud (by rw [str_eta s,zgs]),by go_grown⟩
abbrev I (n:Int):Value:= .int .i64 n
abbrev Sent (a:Addr):Value:= .iface 299 (.pointer (some a))
abbrev Flt (s:ByteArray) (why:Value):Value:= .iface 179 (.agg #[.string s,why])
structure Gl(w:World)(eb ef:Addr):Prop where
 errBatch:w.cell? ⟨0,0,none⟩=some (Sent eb)
 errFrame:True
 ne:eb ≠ ef
 atB:∃ca ta,w.heap[eb.block]?=some (.cells ca ta (0,0))
 atF:∃ca ta,w.heap[ef.block]?=some (.cells ca ta (0,0))
 rules:∀j,j<42->w.cell? ⟨1,j,none⟩=some (I (tab.getD j 0))
theorem zad{w:World}{b o:Nat}{u:Value}(h:w.cell? ⟨b,o,none⟩=some u):b<w.heap.size:=World.block_lt_of_cell? w _ h
theorem zkh{w:World}{k:Nat}{o:Obj}(h:w.heap[k]?=some o):k<w.heap.size:=(am.1 h).1
theorem zaa{w w':World}(hb:Below w.heap.size w w'){b o:Nat}{u:Value}(h:w.cell? ⟨b,o,none⟩=some u):w'.cell? ⟨b,o,none⟩=some u:=by
 rw [hb.cell (p:=⟨b,o,none⟩) (zad h)];exact h
theorem zmm{w w':World}(hb:Below w.heap.size w w'){k:Nat}{o:Obj}(h:w.heap[k]?=some o):w'.heap[k]?=some o:=by
 rw [hb.block k (zkh h)];exact h
theorem Gl.kept{w w':World}{eb ef:Addr}(g:Gl w eb ef)(hb:Below w.heap.size w w'):Gl w' eb ef:=
 ⟨zaa hb g.errBatch,trivial,g.ne,g.atB.imp fun _ h=>h.imp fun _ h=>zmm hb h,g.atF.imp fun _ h=>h.imp fun _ h=>zmm hb h,fun j h=>zaa hb (g.rules j h)⟩
theorem za7{B:Nat}{w w':World}(h:Below B w w')(n:Nat):Below B w (w'.drewN n):=⟨h.os,h.tape,h.output,h.size,h.block⟩
def zac(d:Dt):List Value:= [I d.o,I d.s,I d.i]
abbrev dotV (d:Dt):Value:= .agg #[I d.o,I d.s,I d.i]
def At(w:World)(a:Option Addr)(cells:List Value):Prop:=∀j u,cells[j]?=some u->∃b o,a=some ⟨b,o,none⟩∧w.cell? ⟨b,o+j,none⟩=some u
theorem At.kept{w w':World}{a:Option Addr}{cs:List Value}(h:At w a cs)(hb:Below w.heap.size w w'):At w' a cs:=by
 intro j u hj;obtain⟨b,o,e,hc⟩:=h j u hj;exact⟨b,o,e,zaa hb hc⟩
theorem At.first{w:World}{a:Option Addr}{cs:List Value}(h:At w a cs)(hn:0<cs.length):∃b o,a=some ⟨b,o,none⟩∧b<w.heap.size∧∀j u,cs[j]?=some u->w.cell? ⟨b,o+j,none⟩=some u:=by
 obtain⟨b,o,e,hc⟩:=h 0 _ (ag hn);refine⟨b,o,e,zad hc,fun j u hj=> ?_⟩;obtain⟨b',o',e',hc'⟩:=h j u hj;rw [e] at e';cases e'
 exact hc'
abbrev batV (b:Bt) (ca:Option Addr) (cc:Nat) (ev:Value):Value:= .agg #[I b.o,I b.s,I b.t, .slice ca b.clock.length cc,ev]
theorem zq7{w:World}{ca:Option Addr}{zs:List Int}(h:At w ca (zs.map I)){k:Nat}(hk:k<zs.length):∃b o,ca=some ⟨b,o,none⟩∧b<w.heap.size∧w.cell? ⟨b,o+k,none⟩=some (I (zs.getD k 0)):=by
 obtain⟨b,o,e,hb,hc⟩:=h.first (by simp;omega);exact⟨b,o,e,hb,hc k _ (by simp [hk])⟩
structure Em where
 e:Ef
 da:Option Addr
 dc:Nat
def Em.dv(m:Em):Value:= .slice m.da m.e.dots.length m.dc
def Em.cells(m:Em):List Value:= [I m.e.op,I m.e.ob,I m.e.va,I m.e.ref.o,I m.e.ref.s,I m.e.ref.i,m.dv]
abbrev effV (m:Em):Value:= .agg #[I m.e.op,I m.e.ob,I m.e.va,I m.e.ref.o,I m.e.ref.s,I m.e.ref.i, .slice m.da m.e.dots.length m.dc]
def flat{α:Type}(f:α->List Value):List α->List Value
 | []=> []
 | x::l=>f x++flat f l
theorem zan{α:Type}(f:α->List Value)(n:Nat)(hf:∀x,(f x).length=n):∀l:List α,(flat f l).length=l.length*n
 | []=>by simp [flat]
 | x::l=>by simp [flat,hf,zan f n hf l,Nat.add_mul];omega
theorem zao{α:Type}(f:α->List Value)(n:Nat)(hf:∀x,(f x).length=n):∀(l:List α) (k:Nat) (hk:k<l.length) (j:Nat),j<n->(flat f l)[k*n+j]?=(f l[k])[j]?
 | x::l,0,_,j,hj=>by
  rw [flat,List.getElem?_append_left (by rw [hf];omega)];simp
 | x::l,k+1,hk,j,hj=>by
  rw [flat,List.getElem?_append_right (by rw [hf,Nat.add_mul];omega),hf,show(k+1)*n+j - n=k*n+j by rw [Nat.add_mul];omega];have:=zao f n hf l k (by simpa using hk) j hj;simpa using this
theorem zat(d:Dt):(zac d).length=3:=rfl
theorem zbv(m:Em):m.cells.length=7:=rfl
structure BatAt(w:World)(b:Bt)(ca ea:Option Addr)(ms:List Em):Prop where
 clock:At w ca (b.clock.map I)
 effs:b.effs=ms.map (·.e)
 cells:At w ea (flat Em.cells ms)
 dots:∀m∈ms,At w m.da (flat zac m.e.dots)
abbrev bV (b:Bt) (ca ea:Option Addr) (cc ec:Nat):Value:=batV b ca cc (.slice ea b.effs.length ec)
theorem BatAt.kept{w w':World}{b:Bt}{ca ea:Option Addr}{ms:List Em}(h:BatAt w b ca ea ms)(hb:Below w.heap.size w w'):BatAt w' b ca ea ms:=
 ⟨h.clock.kept hb,h.effs,h.cells.kept hb,fun m hm=>(h.dots m hm).kept hb⟩
theorem zhs{w:World}{da:Option Addr}{ds:List Dt}(h:At w da (flat zac ds))(hn:0<ds.length):∃p q,da=some ⟨p,q,none⟩∧p<w.heap.size∧
  ∀k (hk:k<ds.length),w.cell? ⟨p,q+k*3,none⟩=some (I ds[k].o)∧w.cell? ⟨p,q+k*3+1,none⟩=some (I ds[k].s)∧w.cell? ⟨p,q+k*3+2,none⟩=some (I ds[k].i):=by
 obtain⟨p,q,e,hp,hc⟩:=h.first (by rw [zan _ 3 zat];omega);refine⟨p,q,e,hp,fun k hk=>⟨?_, ?_, ?_⟩⟩
 ·have:=hc (k*3+0) _ ((zao zac 3 zat ds k hk 0 (by omega)).trans rfl);simpa using this
 ·have:=hc (k*3+1) _ ((zao zac 3 zat ds k hk 1 (by omega)).trans rfl);simpa [Nat.add_assoc] using this
 ·have:=hc (k*3+2) _ ((zao zac 3 zat ds k hk 2 (by omega)).trans rfl);simpa [Nat.add_assoc] using this
theorem zjj{w:World}{ea:Option Addr}{ms:List Em}(h:At w ea (flat Em.cells ms))(hn:0<ms.length):∃p q,ea=some ⟨p,q,none⟩∧p<w.heap.size∧
  ∀k (hk:k<ms.length),w.cell? ⟨p,q+k*7,none⟩=some (I ms[k].e.op)∧w.cell? ⟨p,q+k*7+1,none⟩=some (I ms[k].e.ob)∧w.cell? ⟨p,q+k*7+2,none⟩=some (I ms[k].e.va)∧
   w.cell? ⟨p,q+k*7+3,none⟩=some (I ms[k].e.ref.o)∧w.cell? ⟨p,q+k*7+4,none⟩=some (I ms[k].e.ref.s)∧w.cell? ⟨p,q+k*7+5,none⟩=some (I ms[k].e.ref.i)∧
   w.cell? ⟨p,q+k*7+6,none⟩=some (.slice ms[k].da ms[k].e.dots.length ms[k].dc):=by
 obtain⟨p,q,e,hp,hc⟩:=h.first (by rw [zan _ 7 zbv];omega);refine⟨p,q,e,hp,fun k hk=>⟨?_, ?_, ?_, ?_, ?_, ?_, ?_⟩⟩
 ·have:=hc (k*7+0) _ ((zao Em.cells 7 zbv ms k hk 0 (by omega)).trans rfl);simpa using this
 ·have:=hc (k*7+1) _ ((zao Em.cells 7 zbv ms k hk 1 (by omega)).trans rfl);simpa [Nat.add_assoc] using this
 ·have:=hc (k*7+2) _ ((zao Em.cells 7 zbv ms k hk 2 (by omega)).trans rfl);simpa [Nat.add_assoc] using this
 ·have:=hc (k*7+3) _ ((zao Em.cells 7 zbv ms k hk 3 (by omega)).trans rfl);simpa [Nat.add_assoc] using this
 ·have:=hc (k*7+4) _ ((zao Em.cells 7 zbv ms k hk 4 (by omega)).trans rfl);simpa [Nat.add_assoc] using this
 ·have:=hc (k*7+5) _ ((zao Em.cells 7 zbv ms k hk 5 (by omega)).trans rfl);simpa [Nat.add_assoc] using this
 ·have:=hc (k*7+6) _ ((zao Em.cells 7 zbv ms k hk 6 (by omega)).trans rfl);simpa [Nat.add_assoc,Em.dv] using this
def Blk(w:World)(g:Nat)(cs:Array Value)(t:TypeId):Prop:=w.heap[g]?=some (.cells cs t (0,0))
theorem Blk.cell{w:World}{g:Nat}{cs:Array Value}{t:TypeId}(h:Blk w g cs t)(j:Nat):w.cell? ⟨g,j,none⟩=cs[j]?:=by
 rw [cell_of_row w g j cs t (0,0) h]
theorem Blk.frozen{w:World}{g:Nat}{cs:Array Value}{t:TypeId}(h:Blk w g cs t)(j:Nat):w.frozen? ⟨g,j,none⟩=false:=frozen_of_row w g j cs t h
theorem Blk.set{w:World}{g:Nat}{cs:Array Value}{t:TypeId}(h:Blk w g cs t)(j:Nat)(u:Value):Blk (w.setCell ⟨g,j,none⟩ u) g (cs.setIfInBounds j u) t:=heap_setCell_same w g j cs t u h
theorem Blk.other{w:World}{g:Nat}{cs:Array Value}{t:TypeId}(h:Blk w g cs t){a:Addr}(ha:g ≠ a.block)(u:Value):Blk (w.setCell a u) g cs t:=(heap_setCell_other w a g u ha).trans h
theorem Blk.lt{w:World}{g:Nat}{cs:Array Value}{t:TypeId}(h:Blk w g cs t):g<w.heap.size:=by
 have:=am.1 h;exact this.1
theorem Blk.grown{w w':World}{g:Nat}{cs:Array Value}{t:TypeId}{row:Option Nat}(h:Blk w g cs t)(hg:w.grownBy w' row)(hne:some g ≠ row):Blk w' g cs t:=(hg.block g h.lt hne).trans h
theorem Blk.kept{w w':World}{B g:Nat}{cs:Array Value}{t:TypeId}(h:Blk w g cs t)(hb:Below B w w')(hg:g<B):Blk w' g cs t:=(hb.block g hg).trans h
theorem Blk.second(w:World)(o:Obj)(cs:Array Value)(t:TypeId):Blk ((w.alloc o).alloc (.cells cs t)) (w.heap.size+1) cs t:=by
 have:=heap_alloc_new (w.alloc o) (.cells cs t);rwa [show(w.alloc o).heap.size=w.heap.size+1 by simp] at this
theorem zsc{w:World}{base:Nat}{e:TypeId}{size g n c:Nat}{xs:List Value}(h:w.ownsRow base e size (.slice (some ⟨g,0,none⟩) n c) n xs):At w (some ⟨g,0,none⟩) xs:=by
 intro j u hj;refine⟨g,0,rfl, ?_⟩;have hl:j<xs.length:=(af.1 hj).1;rw [aV,h.cellAt j (by rw [←h.1];exact hl)];exact hj
theorem zag{w w':World}{base:Nat}{e:TypeId}{size n:Nat}{v:Value}{xs:List Value}(h:w.ownsRow base e size v n xs)(hb:∀g,v.ownBlock=some g->w'.heap[g]?=w.heap[g]?):w'.ownsRow base e size v n xs:=by
 refine⟨h.1, ?_⟩;rcases h.2 with h2 | ⟨g,cap,cur,rfl,hbg,hg,r⟩
 ·exact .inl h2
 ·exact .inr ⟨g,cap,cur,rfl,hbg,(hb g rfl).trans hg,r⟩
theorem zcf(w:World)(cs:List Value)(t:TypeId):∀j u,cs[j]?=some u->(w.alloc (.cells cs.toArray t)).cell? ((⟨w.heap.size,0,none⟩:Addr).add j)=some u:=by
 intro j u hu;rw [Addr.add_lit,aV,World.cell?_alloc_mark];simpa using hu
theorem zdb(w:World)(cs:List Value)(t:TypeId):∀j u,cs[j]?=some u->(w.alloc (.cells cs.toArray t)).drew.cell? ((⟨w.heap.size,0,none⟩:Addr).add j)=some u:=zcf w cs t
theorem Blk.drew{w:World}{g:Nat}{cs:Array Value}{t:TypeId}(h:Blk w g cs t):Blk w.drew g cs t:=h
theorem Blk.alloc{w:World}{g:Nat}{cs:Array Value}{t:TypeId}(h:Blk w g cs t)(o:Obj):Blk (w.alloc o) g cs t:=(Below.heap_alloc w o g h.lt).trans h
structure Tch(F:Nat->Prop)(w w':World):Prop where
 os:w'.os=w.os
 tape:w'.tape=w.tape
 output:w'.output=w.output
 size:w.heap.size<=w'.heap.size
 block:∀k,k<w.heap.size->¬F k->w'.heap[k]?=w.heap[k]?
theorem Tch.refl(F:Nat->Prop)(w:World):Tch F w w:=⟨rfl,rfl,rfl,ac _,fun _ _ _=>rfl⟩
theorem Tch.mono{F G:Nat->Prop}{w w':World}(h:Tch F w w')(hs:∀k,k<w.heap.size->F k->G k):Tch G w w':=
 ⟨h.os,h.tape,h.output,h.size,fun k hk hn=>h.block k hk (fun hf=>hn (hs k hk hf))⟩
theorem Tch.trans{F G H:Nat->Prop}{w w1 w2:World}(h:Tch F w w1)(h2:Tch G w1 w2)(hF:∀k,k<w.heap.size->F k->H k)(hG:∀k,k<w.heap.size->G k->H k):Tch H w w2:=
 ⟨h2.os.trans h.os,h2.tape.trans h.tape,h2.output.trans h.output,aQ h.size h2.size,fun k hk hn=>(h2.block k (Nat.lt_of_lt_of_le hk h.size) (fun hf=>hn (hG k hk hf))).trans (h.block k hk (fun hf=>hn (hF k hk hf)))⟩
theorem Tch.then{F:Nat->Prop}{w w1 w2:World}(h:Tch F w w1)(h2:Tch F w1 w2):Tch F w w2:=h.trans h2 (fun _ _ h=>h) (fun _ _ h=>h)
theorem Tch.below{F:Nat->Prop}{w w':World}(h:Below w.heap.size w w'):Tch F w w':=⟨h.os,h.tape,h.output,h.size,fun k hk _=>h.block k hk⟩
theorem Tch.grown{w w':World}{row:Option Nat}(h:w.grownBy w' row):Tch (fun k=>row=some k) w w':=
 ⟨h.os,h.tape,h.output,h.size,fun k hk hn=>h.block k hk (fun e=>hn e.symm)⟩
theorem Tch.drew{F:Nat->Prop}{w w':World}(h:Tch F w w'):Tch F w w'.drew:=⟨h.os,h.tape,h.output,h.size,h.block⟩
theorem Tch.drewN{F:Nat->Prop}{w w':World}(h:Tch F w w')(n:Nat):Tch F w (w'.drewN n):=⟨h.os,h.tape,h.output,h.size,h.block⟩
theorem Tch.alloc{F:Nat->Prop}{w w':World}(h:Tch F w w')(o:Obj):Tch F w (w'.alloc o):=
 h.then (Tch.below ((Below.refl _ _).alloc (ac _) o))
theorem Tch.setCell{F:Nat->Prop}{w w':World}(h:Tch F w w')(a:Addr)(v:Value)(ha:F a.block∨w.heap.size<=a.block):Tch F w (w'.setCell a v):=
 ⟨h.os,h.tape,h.output,by simpa using h.size,fun k hk hn=>by
  rw [heap_setCell_other _ a k _ (fun e=>by subst e;rcases ha with ha | ha;exact hn ha;omega)]
  exact h.block k hk hn⟩
theorem Tch.blk{F:Nat->Prop}{w w':World}(h:Tch F w w'){g:Nat}{cur:Array Value}{t:TypeId}(hb:Blk w g cur t)(hn:¬F g):Blk w' g cur t:=(h.block g hb.lt hn).trans hb
theorem Tch.toBelow{F:Nat->Prop}{w w':World}(h:Tch F w w'){B:Nat}(hB:B<=w.heap.size)(hF:∀k,k<B->¬F k):Below B w w':=
 ⟨h.os,h.tape,h.output,h.size,fun k hk=>h.block k (by omega) (hF k hk)⟩
theorem zbb{w w':World}{a:Addr}{v:Value}(h:w.cell? a=some v)(hb:w'.heap[a.block]?=w.heap[a.block]?):w'.cell? a=some v:=by
 have:w'.cell? a=w.cell? a:=by unfold World.cell?;rw [hb]
 rw [this];exact h
theorem Tch.cell{F:Nat->Prop}{w w':World}(h:Tch F w w'){g o:Nat}{v:Value}(hc:w.cell? ⟨g,o,none⟩=some v)(hn:¬F g):w'.cell? ⟨g,o,none⟩=some v:=
 zbb hc (h.block g (zad hc) hn)
def wpN(P:Program)(c:Code)(Q:Exit->Act->World->Prop)(a:Act)(w:World):Prop:=
 ∀(b:Frame) (k:List Item) (cs:List Frame),b.kind ≠ .early->∃e a' w',Q e a' w'∧Arrives P (lone (b.at a (.code c::k)) cs w) b k cs e a' w'
def wpR(P:Program)(ops:Array Oper)(Q:Exit->Act->World->Prop)(l:List Nat)(a:Act)(w:World):Prop:=
 ∀(b:Frame) (k:List Item) (cs:List Frame),b.kind ≠ .early->∃e a' w',Q e a' w'∧Arrives P (lone (b.at a (.inRegion ops l::k)) cs w) b k cs e a' w'
section
variable {P : Program} {Q : Exit -> Act -> World -> Prop} {a : Act} {w : World} {ops : Array Oper}
theorem zdn{c:Code}(h:c.wp P Q a w):wpN P c Q a w:=fun b k cs _=>h b k cs
theorem zcr{x y:Code}(h:wpN P x (Exit.then (wpN P y Q) Q) a w):wpN P (Code.seq x y) Q a w:=by
 intro b k cs hb;obtain⟨e,a₁,w₁,hq,harr⟩:=h b (.code y::k) cs hb;cases e with
 | normal=>
  obtain⟨e₂,a₂,w₂,hq₂,harr₂⟩:=hq b k cs hb;exact⟨e₂,a₂,w₂,hq₂, .of_steps (.head step_seq harr) harr₂⟩
 | exit id=>exact⟨_,a₁,w₁,hq, .of_steps (.one step_seq) (.pass (x:= .code y) rfl (fun _ _=> .inl (by simp)) harr)⟩
 | goto l=>exact⟨_,a₁,w₁,hq, .of_steps (.one step_seq) (.pass (x:= .code y) rfl (fun _ _=> .inl (by simp)) harr)⟩
 | ret=>exact⟨_,a₁,w₁,hq, .of_steps (.one step_seq) (.pass (x:= .code y) rfl (fun _ _=> .inl (by simp)) harr)⟩
 | panic ch=>exact⟨_,a₁,w₁,hq, .of_steps (.one step_seq) (.pass (x:= .code y) rfl (fun _ _=> .inl (by simp)) harr)⟩
 | outgrown=>exact⟨_,a₁,w₁,hq, .of_steps (.one step_seq) (.pass (x:= .code y) rfl (fun _ _=> .inl (by simp)) harr)⟩
theorem wpR_of{l:List Nat}(h:wpOps P ops Q l a w):wpR P ops Q l a w:=fun b k cs _=>wp_ops l a w h b k cs
theorem zcp{i:Nat}{rest:List Nat}{o:Oper}{v:Value}{w':World}(ho:ops[i]?=some o)(hw:Region.wanted o (yielded ops a.tmps)=true)(hr:(execOp a.eval o).run P w= .ok (.value v) w')(h:wpR P ops Q rest (a.put o.dst v) w'):wpR P ops Q (i::rest) a w:=by
 intro b k cs hb;obtain⟨e,a',w'',hq,harr⟩:=h b k cs hb;have hg:=stepG_op (P:=P) (b:=b) (k:=k) (cs:=cs) (w:=w) (rest:=rest) ho hw;have hfin:(b.at a (.inRegion ops (i::rest)::k)).finish v=b.at (a.put o.dst v) (.inRegion ops rest::k):=by rw [Frame.finish_at,ho];rfl
 refine⟨e,a',w'',hq, .of_steps (.one (step_lone_go ?_)) harr⟩;rw [hg,←hfin];simp [stepG.apply,hr]
theorem zjp{i:Nat}{rest:List Nat}{o:Oper}{v:Value}{w1 w':World}{cases:Array CommCase}{blocking:Bool}{shape:CommShape}(ho:ops[i]?=some o)(hw:Region.wanted o (yielded ops a.tmps)=true)(hr:(execOp a.eval o).run P w= .ok (.comm cases blocking shape) w1)
  (hst:∀fr cs es,stepG P true (Go.Conc.G fr cs) w= .comm (Go.Conc.G fr cs) cases blocking shape w1 es->step P (Go.Conc.solo (Go.Conc.G fr cs) w)= .next (Go.Conc.solo (Go.Conc.G (fr.finish v) cs) w')) (h:wpR P ops Q rest (a.put o.dst v) w'):wpR P ops Q (i::rest) a w:=by
 intro b k cs hb;obtain⟨e,a',w'',hq,harr⟩:=h b k cs hb;have hfin:(b.at a (.inRegion ops (i::rest)::k)).finish v=b.at (a.put o.dst v) (.inRegion ops rest::k):=by rw [Frame.finish_at,ho];rfl
 have hs:=hst (b.at a (.inRegion ops (i::rest)::k)) cs _ (Go.Conc.stepG_comm ho hw hb hr);rw [hfin,←Go.Conc.lone_eq_solo,←Go.Conc.lone_eq_solo] at hs;exact⟨e,a',w'',hq, .of_steps (.one hs) harr⟩
theorem zgp{id:Nat}(h:wpR P ops Q (List.range ops.size) a w):wpN P (Code.region id ops false) Q a w:=
 fun b k cs hb=>let ⟨e,a',w',q,r⟩:=h b k cs hb;⟨e,a',w',q, .of_steps (.one step_region) r⟩
theorem zna(h:Q .normal a w):wpR P ops Q [] a w:=wpR_of h
end
theorem ze8{P:Program}{f:FuncId}{fn:Func}{c:Code}{args:Array Value}{w:World}{R:Ending->World->Prop}
  (hf:P.funcs[f]?=some fn) (hb:fn.body=some c)
  (h:wpN P c (bodyPost P fn R) {tmps:=args++Array.replicate (fn.ntmps - args.size) undef,defers:= []} w):
  Calls P f args w R:=by
 intro cs;let b:Frame:={(default:Frame) with fn:=f,kind:= .normal}
 have henter:Frame.enter P f args .normal=
   b.at {tmps:=args++Array.replicate (fn.ntmps - args.size) undef,defers:= []} [.code c]:=by
  simp [Frame.enter,Frame.at,hf,hb,b]
 obtain⟨e,a',w',hq,harr⟩:=h b [] cs (by simp [b]);rw [←henter] at harr;cases e with
 | normal=>
  obtain⟨hd,v,hr,hR⟩:=hq;exact⟨.returned v,w',_,hR,Steps.trans harr (.one step_end),rfl,rfl,hd,rfl,fn,hf,hr⟩
 | ret=>
  obtain⟨hd,v,hr,hR⟩:=hq;obtain⟨todo,hs⟩:=harr;exact⟨.returned v,w',_,hR,hs,rfl,rfl,hd,rfl,fn,hf,hr⟩
 | panic chain=>
  obtain⟨hd,hR⟩:=hq;obtain⟨todo,hs⟩:=harr;exact⟨.panicked chain,w',_,hR,hs,rfl,rfl,hd,fn,hf⟩
 | exit id=>exact hq.elim
 | goto l=>exact hq.elim
 | outgrown=>exact⟨.outgrown,w',b,hq,harr.resolve_left (by simp [b]),rfl,trivial⟩
theorem Tch.setChan{F:Nat->Prop}{w w':World}(h:Tch F w w')(c cap:Nat)(buf:Array Value)(cl:Bool)(s r:Nat)(tm:Bool)(hc:F c∨w.heap.size<=c):Tch F w (w'.setChan c cap buf cl s r tm):=
 ⟨h.os,h.tape,h.output,by rw [Go.Conc.size_setChan];exact h.size,fun k hk hn=>by
  have:k ≠ c:=by rintro rfl;rcases hc with hc | hc;exact hn hc;omega
  rw [←h.block k hk hn];simp only [World.setChan]
  rw [Array.getElem?_setIfInBounds_ne (by omega)]⟩
def eq3(a1 a2 a3 b1 b2 b3:Int):Bool:=(a1==b1) && (a2==b2) && (a3==b3)
theorem zfk(a1 a2 a3 b1 b2 b3:Int)(w:World):
  (binOp .eql 125 (.agg #[I a1,I a2,I a3]) (.agg #[I b1,I b2,I b3])).run Tryz.prog w= .ok (.bool (eq3 a1 a2 a3 b1 b2 b3)) w:=by
 go_simp
 unfold eq3;by_cases h1:a1=b1<;>by_cases h2:a2=b2<;>by_cases h3:a3=b3<;>simp [h1,h2,h3]
theorem zfi(a1 a2 a3 b1 b2 b3:Int)(w:World):
  (binOp .neq 125 (.agg #[I a1,I a2,I a3]) (.agg #[I b1,I b2,I b3])).run Tryz.prog w= .ok (.bool (!eq3 a1 a2 a3 b1 b2 b3)) w:=by
 go_simp
 unfold eq3;by_cases h1:a1=b1<;>by_cases h2:a2=b2<;>by_cases h3:a3=b3<;>simp [h1,h2,h3]
abbrev Lv:=List (Dt×Int)
def Stm(es:Array MapEntry)(clock:Nat):Prop:=(∀x∈es.toList,x.born<clock)∧(es.toList.map (·.born)).Nodup
def MpAt(w:World)(b:Nat)(m:Lv):Prop:=∃es clock,w.heap[b]?=some (.map es clock)∧es.toList.map (fun e=>(e.key,e.val))=m.map (fun x=>(dotV x.1,I x.2))∧Stm es clock
theorem Stm.none:Stm #[] 0:=⟨fun x hx=>by simp at hx,by simp⟩
theorem Stm.push{es:Array MapEntry}{clock:Nat}(h:Stm es clock)(k v:Value):Stm (es.push ⟨k,v,clock⟩) (clock+1):=by
 refine⟨fun x hx=> ?_, ?_⟩
 ·rw [Array.toList_push,ao] at hx
  rcases hx with hx | hx
  ·have:=h.1 x hx
   omega
  ·simp only [aB] at hx
   subst hx;show clock<clock+1;omega
 ·rw [Array.toList_push,aO,List.nodup_append]
  refine⟨h.2,by simp,fun a ha c hc=> ?_⟩;obtain⟨x,hx,rfl⟩:=aG.1 ha;simp only [List.map_cons,List.map_nil,aB] at hc;have:=h.1 x hx;omega
theorem Stm.erase{es:Array MapEntry}{clock:Nat}(h:Stm es clock)(j:Nat):Stm (es.eraseIdxIfInBounds j) clock:=by
 have hs:((es.eraseIdxIfInBounds j).toList).Sublist es.toList:=by
  rw [Array.toList_eraseIdxIfInBounds];exact List.eraseIdx_sublist _ _
 exact⟨fun x hx=>h.1 x (hs.subset hx),(hs.map _).nodup h.2⟩
theorem Stm.modify{es:Array MapEntry}{clock:Nat}(h:Stm es clock)(j:Nat)(f:MapEntry->MapEntry)(hf:∀x,(f x).born=x.born):Stm (es.modify j f) clock:=by
 have hb:(es.modify j f).toList.map (·.born)=es.toList.map (·.born):=by
  apply List.ext_getElem?;intro k;simp only [List.getElem?_map,Array.getElem?_toList,Array.getElem?_modify];by_cases hjk:j=k
  ·rw [aA hjk]
   cases es[k]? with
   | none=>rfl
   | some x=>simp [hf]
  ·rw [ap hjk]
 refine⟨fun x hx=> ?_,by rw [hb];exact h.2⟩;have hm:x.born∈(es.modify j f).toList.map (·.born):=aG.2 ⟨x,hx,rfl⟩;rw [hb] at hm;obtain⟨y,hy,hyx⟩:=aG.1 hm;rw [←hyx];exact h.1 y hy
def eqD(d e:Dt):Bool:=eq3 d.o d.s d.i e.o e.s e.i
theorem zba(d e:Dt):eqD d e=true↔d=e:=by
 unfold eqD eq3;cases d;cases e
 simp [and_assoc]
def idxD(d:Dt)(m:Lv):Option Nat:=m.findIdx? (fun x=>eqD d x.1)
def putD(m:Lv)(d:Dt)(v:Int):Lv:=match idxD d m with | some i=>m.set i (d,v) | none=>m++ [(d,v)]
def delD(m:Lv)(d:Dt):Lv:=match idxD d m with | some i=>m.eraseIdx i | none=>m
def getD(m:Lv)(d:Dt):Int:=match idxD d m with | some i=>((m[i]?).map (·.2)).getD 0 | none=>0
theorem zlm(d e:Dt)(w:World):(Op.equal 125 (dotV d) (dotV e)).run Tryz.prog w= .ok (eqD d e) w:=by
 unfold eqD;show(Op.equalIn (9999+1) 125 (.agg #[I d.o,I d.s,I d.i]) (.agg #[I e.o,I e.s,I e.i])).run Tryz.prog w=_;go_simp
 unfold eq3;by_cases h1:d.o=e.o<;>by_cases h2:d.s=e.s<;>by_cases h3:d.i=e.i<;>simp [h1,h2,h3]
theorem zdv(d:Dt)(w:World):∀(es:List MapEntry) (m:Lv) (i:Nat),es.map (fun e=>(e.key,e.val))=m.map (fun x=>(dotV x.1,I x.2))->
  (Instr.findAsking 125 (dotV d) es i).run Tryz.prog w= .ok ((idxD d m).map (fun j=>(i+j,I (((m[j]?).map (·.2)).getD 0)))) w
 | [], [],i,_=>by simp [Instr.findAsking,idxD]
 | [],_::_,_,h=>by simp at h
 | _::_, [],_,h=>by simp at h
 | e::es,x::m,i,h=>by
  simp only [List.map_cons,List.cons.injEq,Prod.mk.injEq] at h;obtain⟨⟨h1,h2⟩,h3⟩:=h;unfold Instr.findAsking;rw [h1,Sem.run_bind,zlm];simp only [Result.andThen_ok];by_cases hq:eqD d x.1=true
  ·rw [aA hq]
   simp [idxD,List.findIdx?_cons,hq,h2]
  ·have hq':eqD d x.1=false:=by simpa using hq
   rw [ap hq,zdv d w es m (i+1) h3];simp only [idxD,List.findIdx?_cons,hq'];cases hf:m.findIdx? (fun x=>eqD d x.1) with
   | none=>simp
   | some j=>simp;omega
theorem zdd(d:Dt)(w:World)(es:List MapEntry)(m:Lv)(h:es.map (fun e=>(e.key,e.val))=m.map (fun x=>(dotV x.1,I x.2))):
  (Instr.findKey 125 (dotV d) es).run Tryz.prog w= .ok ((idxD d m).map (fun j=>(j,I (((m[j]?).map (·.2)).getD 0)))) w:=by
 have hf:=zdv d w es m 0 h;unfold Instr.findKey;rw [Sem.run_bind,run_underlying Tryz.underlying125];simp only [Result.andThen_ok];cases es with
 | nil=>
  cases m with
  | nil=>simp [Instr.findNow,idxD]
  | cons x m=>simp at h
 | cons e es=>
  simp only [Instr.findNow,Instr.sameNow];rw [hf];simp
theorem zcv(d:Dt)(b:Bool)(w:World):(Instr.checkKey b 10000 125 (dotV d)).run Tryz.prog w= .ok () w:=by
 show(Instr.checkKey b (9999+1) 125 (.agg #[I d.o,I d.s,I d.i])).run Tryz.prog w=_;rw [Instr.checkKey,Sem.run_bind,run_underlying Tryz.underlying125]
 have hc:∀x w,(Instr.checkKey b 9999 3 (I x)).run Tryz.prog w= .ok () w:=fun x w=>by
  show(Instr.checkKey b (9998+1) 3 (.int .i64 x)).run Tryz.prog w=_;rw [Instr.checkKey,Sem.run_bind,run_underlying Tryz.underlying3];simp
 simp only [Result.andThen_ok,List.forIn_toArray,List.forIn_cons,List.forIn_nil];go_simp
theorem MpAt.lt{w:World}{b:Nat}{m:Lv}(h:MpAt w b m):b<w.heap.size:=by
 obtain⟨es,clock,hb,_⟩:=h;exact(am.1 hb).1
theorem MpAt.same{w w':World}{b:Nat}{m:Lv}(h:MpAt w b m)(hb:w'.heap[b]?=w.heap[b]?):MpAt w' b m:=by
 obtain⟨es,clock,h1,h2⟩:=h;exact⟨es,clock,hb.trans h1,h2⟩
theorem MpAt.new(w:World):MpAt (w.alloc (.map #[] 0)) w.heap.size []:=⟨#[],0,(MapKept.heap_alloc w _).1,rfl,Stm.none⟩
theorem zn7{es:Array MapEntry}{m:Lv}(h:es.toList.map (fun e=>(e.key,e.val))=m.map (fun x=>(dotV x.1,I x.2))):es.size=m.length:=by
 have:=aD List.length h;simpa using this
theorem zfj(d:Dt)(w:World)(b:Nat)(m:Lv)(h:MpAt w b m):(Instr.lookup 200 (.map (some b)) (dotV d) false).run Tryz.prog w= .ok (I (getD m d)) w:=by
 obtain⟨es,clock,hb,he,hst0⟩:=h;have hz:(zeroValue 3).run Tryz.prog w= .ok (.int .i64 0) w:=Tryz.zeroValue3 w;unfold Instr.lookup;simp only [Sem.run_bind,run_underlying Tryz.underlying200,Result.andThen_ok,MapKept.run_getObj_map hb,Sem.run_pure,zcv,zdd d w es.toList m he];unfold getD;cases idxD d m with
 | none=>simp [hz]
 | some j=>simp
theorem znl(d:Dt):Instr.sameBits 10000 (dotV d) (dotV d)=true:=by
 show Instr.sameBits (9999+1) (.agg #[I d.o,I d.s,I d.i]) (.agg #[I d.o,I d.s,I d.i])=true;simp [Instr.sameBits]
theorem zie{d:Dt}{m:Lv}{j:Nat}(h:idxD d m=some j):∃hj:j<m.length,m[j].1=d:=by
 obtain⟨hj,h1,_⟩:=List.findIdx?_eq_some_iff_getElem.1 h;exact⟨hj,((zba _ _).1 h1).symm⟩
def setM(w:World)(b:Nat)(o:Obj):World:={w with heap:=w.heap.setIfInBounds b o}
theorem zdu(w:World)(b:Nat)(o:Obj):w.grownBy (setM w b o) (some b):=
 ⟨rfl,rfl,rfl,by simp [setM],fun k _ hk=>by
  show(w.heap.setIfInBounds b o)[k]?=_
  rw [Array.getElem?_setIfInBounds_ne (fun e=>hk (by rw [e]))]⟩
theorem zhc{w:World}{b:Nat}(hb:b<w.heap.size)(o:Obj):(setM w b o).heap[b]?=some o:=by simp [setM,hb]
theorem zfh(d:Dt)(v:Int)(w:World)(b:Nat)(m:Lv)(h:MpAt w b m):∃w',(Instr.mapUpdate 200 (.map (some b)) (dotV d) (I v)).run Tryz.prog w= .ok () w'∧MpAt w' b (putD m d v)∧w.grownBy w' (some b):=by
 have hlt:=h.lt;obtain⟨es,clock,hb,he,hst0⟩:=h;have hset:∀o:Obj,(setObj b o).run Tryz.prog w= .ok () (setM w b o):=fun o=>MapKept.run_setObj_map o hb
 unfold Instr.mapUpdate;simp only [Sem.run_bind,run_underlying Tryz.underlying200,Result.andThen_ok,MapKept.run_getObj_map hb,zcv,zdd d w es.toList m he];unfold putD;cases hq:idxD d m with
 | none=>
  simp only [Option.map_none,hset];refine⟨_,rfl,⟨_,_,zhc hlt _, ?_,hst0.push _ _⟩,zdu w b _⟩;rw [Array.toList_push,aO,he,aO];rfl
 | some j=>
  obtain⟨hj,hd⟩:=zie hq;have hsz:=zn7 he;have hje:j<es.size:=by omega
  have hk:es[j].key=dotV d:=by
   have h1:(es.toList.map (fun e=>(e.key,e.val)))[j]?=some (es[j].key,es[j].val):=by simp [hje]
   rw [he] at h1;simp only [List.getElem?_map,ag hj,Option.map_some,Option.some.injEq,Prod.mk.injEq] at h1;rw [←h1.1,hd]
  have hst:(Instr.keyThatStays ((Option.map (fun x=>x.key) es[j]?).getD (dotV d)) (dotV d)).run Tryz.prog w= .ok (dotV d) w:=by
   rw [Array.getElem?_eq_getElem hje];simp only [Option.map_some,Option.getD_some,hk];unfold Instr.keyThatStays;rw [aA (znl d)];rfl
  simp only [Option.map_some,Sem.run_bind,hst,Result.andThen_ok,hset];refine⟨_,rfl,⟨_,_,zhc hlt _, ?_,hst0.modify _ _ (fun _=>rfl)⟩,zdu w b _⟩;apply List.ext_getElem?;intro k;have hek:(es.toList.map (fun e=>(e.key,e.val)))[k]?=(m.map (fun x=>(dotV x.1,I x.2)))[k]?:=by rw [he]
  simp only [List.getElem?_map,Array.getElem?_toList] at hek;simp only [List.getElem?_map,Array.getElem?_toList,Array.getElem?_modify,List.getElem?_set];by_cases hjk:j=k
  ·subst hjk
   simp [hj,hje]
  ·rw [ap hjk,ap hjk]
   exact hek
theorem zh6{α β:Type}(f:α->β):∀(l:List α) (j:Nat),(l.eraseIdx j).map f=(l.map f).eraseIdx j
 | [],_=>by simp
 | _::_,0=>by simp
 | a::r,j+1=>by simp [zh6 f r j]
theorem zj1(d:Dt)(w:World)(b:Nat)(ty t2:TypeId)(m:Lv)(h:MpAt w b m):∃w',(Builtin.delete_ #[200,t2] ty #[.map (some b),dotV d]).run Tryz.prog w= .ok (.tuple #[]) w'∧MpAt w' b (delD m d)∧w.grownBy w' (some b):=by
 have hlt:=h.lt;obtain⟨es,clock,hb,he,hst0⟩:=h;have hset:∀o:Obj,(setObj b o).run Tryz.prog w= .ok () (setM w b o):=fun o=>MapKept.run_setObj_map o hb
 have hsz:=zn7 he;unfold Builtin.delete_;simp only [List.getElem?_toArray,List.getElem?_cons_zero,List.getElem?_cons_succ,Sem.run_bind,run_underlying Tryz.underlying200,Result.andThen_ok,MapKept.run_getObj_map hb,zcv,zdd d w es.toList m he];unfold delD;cases hq:idxD d m with
 | none=>
  simp only [Option.map_none,Sem.run_bind,hset,Result.andThen_ok,Sem.run_pure];exact⟨_,rfl,⟨_,_,zhc hlt _,he,hst0⟩,zdu w b _⟩
 | some j=>
  obtain⟨hj,hd⟩:=zie hq;simp only [Option.map_some,Sem.run_bind,hset,Result.andThen_ok,Sem.run_pure];refine⟨_,rfl,⟨_,_,zhc hlt _, ?_,hst0.erase _⟩,zdu w b _⟩;rw [Array.toList_eraseIdxIfInBounds,zh6,zh6,he]
def Tb(w:World)(g:Nat)(l:List UInt8):Prop:=∃cur:Array Value,w.heap[g]?=some (.cells cur 5 (cur.size,cur.size+1))∧∀j (hj:j<l.length),cur[j]?=some (B8 l[j])
theorem Tb.begin(w:World)(l:List UInt8):Tb (Lib.bytesWorld w 5 ⟨l.toArray⟩) w.heap.size l:=
 ⟨_,Lib.bytesWorld_at_new w _ _,fun j hj=>by simp [Lib.bytesCells,Array.getElem?_append,hj]⟩
theorem Tb.lt{w:World}{g:Nat}{l:List UInt8}(h:Tb w g l):g<w.heap.size:=by
 obtain⟨cur,hc,_⟩:=h;exact(am.1 hc).1
theorem Tb.cell{w:World}{g:Nat}{l:List UInt8}(h:Tb w g l)(j:Nat)(hj:j<l.length):w.cell? ⟨g,j,none⟩=some (B8 l[j]):=by
 obtain⟨cur,hc,h2⟩:=h;rw [Joins.cell_of_block hc];exact h2 j hj
theorem Tb.free{w:World}{g:Nat}{l:List UInt8}(h:Tb w g l)(j:Nat)(hj:j<l.length):w.frozen? ⟨g,j,none⟩=false:=by
 obtain⟨cur,hc,h2⟩:=h;have:=(am.1 (h2 j hj)).1;simp [World.frozen?,hc];omega
theorem Tb.set{w:World}{g:Nat}{l:List UInt8}(h:Tb w g l)(j:Nat)(x:UInt8):Tb (w.setCell ⟨g,j,none⟩ (B8 x)) g (l.set j x):=by
 obtain⟨cur,hc,h2⟩:=h;refine⟨cur.setIfInBounds j (B8 x), ?_,fun k hk=> ?_⟩
 ·have:=Joins.block_setCell hc (B8 x) (i:=j)
  simpa using this
 ·have hk':k<l.length:=by simpa using hk
  have hs:=(am.1 (h2 k hk')).1;rw [Array.getElem?_setIfInBounds];by_cases e:j=k
  ·subst e
   simp [hs]
  ·simp [e,h2 k hk']
theorem Tb.kept{w w':World}{g:Nat}{l:List UInt8}(h:Tb w g l)(hb:Below w.heap.size w w'):Tb w' g l:=by
 have hl:=h.lt;obtain⟨cur,hc,h2⟩:=h;exact⟨cur,by rw [hb.block g hl];exact hc,h2⟩
theorem zi8(w:World)(e:TypeId)(s:ByteArray):Below w.heap.size w (Lib.bytesWorld w e s):=
 ⟨rfl,rfl,rfl,by rw [Lib.bytesWorld_size];omega,fun k hk=>Lib.bytesWorld_at_old w e s k hk⟩
theorem xor_b8(c:UInt8)(M:Int)(h1:0<=M)(h2:M<256):bits .xor .u8 (c.toNat:Int) M=((c ^^^ UInt8.ofNat M.toNat).toNat:Int):=by
 obtain⟨n,rfl⟩:=aN h1;rw [u8_xor_nat _ _ c.toNat_lt (by omega),UInt8.toNat_xor,UInt8.toNat_ofNat_of_lt' (by show(n:Int).toNat<256;omega)];rfl
end Go.Proofs.YtfmcngncaffloabGreatDoor
namespace Go.Proofs
open Go.Shelf
def Tryz.laysM171_ren:Go.Shelf.Ren:=⟨fun | 171=>173 | 243=>195 | 246=>209 | 283=>212 | 284=>213 | 285=>214 | 286=>215 | 129=>217 | 317=>216 | 318=>218 | 319=>219 | 320=>220 | 337=>221 | 338=>222 | n=>n,fun | 3=>3 | 9=>9 | 2=>2 | 4=>4 | 171=>286 | 0=>0 | 53=>287 | 37=>191 | 5=>5 | 173=>290 | 212=>293 | 51=>250 | 20=>20 | 213=>294 | 46=>252 | 232=>297 | 233=>298 | n=>n,fun | 17=>8 | 18=>9 | 19=>10 | n=>n⟩
theorem Tryz.laysM171:Go.Proofs.LaysM.n171 Tryz.prog Tryz.laysM171_ren:={
 mixed:=by kernel_rfl
 f129:=Tryz.func217.trans (congrArg some (by kernel_rfl))
 f171:=Tryz.func173.trans (congrArg some (by kernel_rfl))
 f243:=Tryz.func195.trans (congrArg some (by kernel_rfl))
 f246:=Tryz.func209.trans (congrArg some (by kernel_rfl))
 f283:=Tryz.func212.trans (congrArg some (by kernel_rfl))
 f284:=Tryz.func213.trans (congrArg some (by kernel_rfl))
 f285:=Tryz.func214.trans (congrArg some (by kernel_rfl))
 f286:=Tryz.func215.trans (congrArg some (by kernel_rfl))
 f317:=Tryz.func216.trans (congrArg some (by kernel_rfl))
 f318:=Tryz.func218.trans (congrArg some (by kernel_rfl))
 f319:=Tryz.func219.trans (congrArg some (by kernel_rfl))
 f320:=Tryz.func220.trans (congrArg some (by kernel_rfl))
 f337:=Tryz.func221.trans (congrArg some (by kernel_rfl))
 f338:=Tryz.func222.trans (congrArg some (by kernel_rfl))
 t0:=Tryz.underlying0
 a0:=Tryz.isAgg0
 z0:=Tryz.sizeOf0
 v0:=Tryz.zeroValue0
 t2:=Tryz.underlying2
 a2:=Tryz.isAgg2
 z2:=Tryz.sizeOf2
 v2:=Tryz.zeroValue2
 t3:=Tryz.underlying3
 a3:=Tryz.isAgg3
 z3:=Tryz.sizeOf3
 v3:=Tryz.zeroValue3
 t4:=Tryz.underlying4
 a4:=Tryz.isAgg4
 z4:=Tryz.sizeOf4
 v4:=Tryz.zeroValue4
 t5:=Tryz.underlying5
 a5:=Tryz.isAgg5
 z5:=Tryz.sizeOf5
 v5:=Tryz.zeroValue5
 t9:=Tryz.underlying9
 a9:=Tryz.isAgg9
 z9:=Tryz.sizeOf9
 v9:=Tryz.zeroValue9
 t20:=Tryz.underlying20
 a20:=Tryz.isAgg20
 z20:=Tryz.sizeOf20
 v20:=Tryz.zeroValue20
 t37:=Tryz.underlying191
 a37:=Tryz.isAgg191
 z37:=Tryz.sizeOf191
 v37:=Tryz.zeroValue191
 t46:=Tryz.underlying252
 a46:=Tryz.isAgg252
 z46:=Tryz.sizeOf252
 v46:=Tryz.zeroValue252
 t51:=Tryz.underlying250
 a51:=Tryz.isAgg250
 z51:=Tryz.sizeOf250
 v51:=Tryz.zeroValue250
 t53:=Tryz.underlying287
 a53:=Tryz.isAgg287
 z53:=Tryz.sizeOf287
 v53:=Tryz.zeroValue287
 t171:=Tryz.underlying286
 a171:=Tryz.isAgg286
 z171:=Tryz.sizeOf286
 v171:=Tryz.zeroValue286
 t173:=Tryz.underlying290
 a173:=Tryz.isAgg290
 z173:=Tryz.sizeOf290
 v173:=Tryz.zeroValue290
 t212:=Tryz.underlying293
 a212:=Tryz.isAgg293
 z212:=Tryz.sizeOf293
 v212:=Tryz.zeroValue293
 t213:=Tryz.underlying294
 a213:=Tryz.isAgg294
 z213:=Tryz.sizeOf294
 t232:=Tryz.underlying297
 a232:=Tryz.isAgg297
 z232:=Tryz.sizeOf297
 v232:=Tryz.zeroValue297
 t233:=Tryz.underlying298
 a233:=Tryz.isAgg298
 z233:=Tryz.sizeOf298
 v233:=Tryz.zeroValue298
 g17:=by kernel_rfl
 g18:=by kernel_rfl
 g19:=by kernel_rfl
 i0:=by kernel_rfl
 i2:=by kernel_rfl
 i3:=by kernel_rfl
 i4:=by kernel_rfl
 i5:=by kernel_rfl
 i9:=by kernel_rfl
 i20:=by kernel_rfl
 i37:=by kernel_rfl
 i46:=by kernel_rfl
 i51:=by kernel_rfl
 i53:=by kernel_rfl
 i171:=by kernel_rfl
 i173:=by kernel_rfl
 i212:=by kernel_rfl
 i232:=by kernel_rfl
 i233:=by kernel_rfl
 m17:=by kernel_rfl
 m18:=by kernel_rfl
 m19:=by kernel_rfl}
open Go.RowKit Go.Sort Go.Lib in
theorem Tryz.strconv_Itoa (n : Int) (h0 : -9223372036854775808 <= n) (h1 : n <= 9223372036854775807) (w : World) (htab : Lib.TabIs Tryz.prog w "internal/strconv.uint64pow10" .u64 Lib.pow10Tab) :
  Calls Tryz.prog 173 #[.int .i64 n] w fun e w'=>e= .returned (.string ⟨(Lib.itoa n).toArray⟩)∧∃k os,w'=grow (w.drewN k) os:=Any.strconv_Itoa Tryz.laysM171 n h0 h1 w htab
end Go.Proofs
namespace Go.Proofs.YtfmcngncaffloabGreatDoor
open Go.RowKit Wv
set_option maxRecDepth 100000
def Pw(w:World):Prop:=∃t fr,w.heap[8]?=some (.cells (Lib.pow10Tab.map fun z=>Value.int .u64 z).toArray t fr)
theorem Pw.kept{w w':World}(h:Pw w)(hb:Below w.heap.size w w'):Pw w':=by
 obtain⟨t,fr,e⟩:=h;exact⟨t,fr,(hb.block _ (zkh e)).trans e⟩
def zaj:Prop:=∀(n:Nat) (w:World),n<150->Pw w->
 Calls Tryz.prog 173 #[I n] w fun e w'=>(∃s:ByteArray,s.size<=64∧e= .returned (.string s))∧Below w.heap.size w w'
theorem ztz(w:World)(k:Nat)(os:Array Obj):Below w.heap.size w (Go.Sort.grow (w.drewN k) os):=
 ⟨rfl,rfl,rfl,by simp [Go.Sort.grow],fun j hj=>by simp [Go.Sort.grow,Array.getElem?_append,hj]⟩
theorem zsp(n:Nat)(h:n<150):(Lib.itoa (n:Int)).length<=64:=by
 have:∀k:Fin 150,(Lib.itoa ((k.val:Nat):Int)).length<=64:=by decide+kernel
 exact this ⟨n,h⟩
theorem zwq:zaj:=by
 intro n w hn hp;obtain⟨t,fr,e⟩:=hp;refine(Tryz.strconv_Itoa n (by omega) (by omega) w ?_).mono ?_
 ·unfold Lib.TabIs World.var?
  rw [show Tryz.prog.globalNamed _=some 8 by kernel_rfl];simp [e]
 ·rintro e w' ⟨rfl,k,os,rfl⟩
  exact⟨⟨_,by show(Lib.itoa (n:Int)).toArray.size<=64;simpa using zsp n hn,rfl⟩,ztz w k os⟩
def zgf(eb:Addr)(v:Value):Prop:=∃s,v=Flt s (Sent eb)
def IsFault2(eb:Addr)(v:Value):Prop:=(∃s,v=Flt s (Sent eb))∨∃s t,v=Flt s (Flt t (Sent eb))
def zfb(ok:Bool)(eb:Addr)(e:Ending):Prop:=if ok then e= .returned .nilIface else∃v,e= .returned v∧IsFault2 eb v
def zca(ok:Bool)(eb:Addr)(e:Ending):Prop:=if ok then e= .returned .nilIface else∃v,e= .returned v∧zgf eb v
theorem zbl{ok:Bool}{eb:Addr}{s:ByteArray}(h:ok=false):zca ok eb (.returned (Flt s (Sent eb))):=by
 rw [h];exact⟨_,rfl,⟨_,rfl⟩⟩
theorem zd4{ok:Bool}{eb:Addr}(h:ok=true):zca ok eb (.returned .nilIface):=by
 rw [h];rfl
def unI:Value->Int
 | .int _ x=>x
 | _=>0
def unD:Value->Dt
 | .agg a=>⟨unI (a[0]?.getD undef),unI (a[1]?.getD undef),unI (a[2]?.getD undef)⟩
 | _=>⟨0,0,0⟩
def unE(e:MapEntry):Dt×Int:=(unD e.key,unI e.val)
theorem unD_dot(d:Dt):unD (dotV d)=d:=rfl
theorem ents_un{es:List MapEntry}{m:Lv}(h:es.map (fun e=>(e.key,e.val))=m.map (fun x=>(dotV x.1,I x.2))):es.map unE=m:=by
 have h1:=aD (List.map (fun p:Value×Value=>(unD p.1,unI p.2))) h;rw [List.map_map,List.map_map] at h1;have h2:es.map unE=m.map (fun x=>(unD (dotV x.1),unI (I x.2))):=h1;rw [h2];simp [unD_dot,unI]
theorem ent_of{es:List MapEntry}{m:Lv}(h:es.map (fun e=>(e.key,e.val))=m.map (fun x=>(dotV x.1,I x.2))){e:MapEntry}(he:e∈es):e.key=dotV (unE e).1∧e.val=I (unE e).2:=by
 have h1:(e.key,e.val)∈es.map (fun e=>(e.key,e.val)):=aG.2 ⟨e,he,rfl⟩;rw [h] at h1;obtain⟨x,_,hx⟩:=aG.1 h1;obtain⟨h2,h3⟩:=Prod.mk.inj hx;unfold unE;rw [←h2,←h3];exact⟨rfl,rfl⟩
theorem zpl{e:MapEntry}:∀{L:List MapEntry},(L.map (·.born)).Nodup->e∈L->L.Perm (e::L.filter (fun x=> !(x.born==e.born)))
 | [],_,h=>by simp at h
 | a::L,hn,he=>by
  simp only [List.map_cons,List.nodup_cons] at hn;rcases ar.1 he with rfl | he'
  ·have hf:L.filter (fun x=> !(x.born==e.born))=L:=List.filter_eq_self.2 (fun x hx=>by
    have:x.born ≠ e.born:=fun h=>hn.1 (h ▸ aG.2 ⟨x,hx,rfl⟩)
    simp [this])
   simp [hf]
  ·have hne:a.born ≠ e.born:=fun h=>hn.1 (h ▸ aG.2 ⟨e,he',rfl⟩)
   have hf:(a::L).filter (fun x=> !(x.born==e.born))=a::L.filter (fun x=> !(x.born==e.born)):=by simp [hne]
   rw [hf];exact((zpl hn.2 he').cons a).trans (List.Perm.swap e a _)
theorem zh9(es:Array MapEntry)(seen:Array Nat):(leftOf es seen).toList=es.toList.filter (fun e=> !seen.contains e.born):=by
 unfold leftOf;rw [←Array.toList_filter]
theorem zwm{es:Array MapEntry}{seen:Array Nat}{e:MapEntry}(hn:(es.toList.map (·.born)).Nodup)(he:e∈(leftOf es seen).toList):(leftOf es seen).toList.Perm (e::(leftOf es (seen.push e.born)).toList):=by
 have h1:(leftOf es (seen.push e.born)).toList=(leftOf es seen).toList.filter (fun x=> !(x.born==e.born)):=by
  rw [zh9,zh9,List.filter_filter];congr 1
  funext x
  rw [contains_push];cases seen.contains x.born<;>cases (x.born==e.born)<;>rfl
 rw [h1];refine zpl ?_ he;rw [zh9];exact(List.Sublist.map _ List.filter_sublist).nodup hn
def RgAt(w:World)(b r:Nat)(m ss:Lv)(left:Nat):Prop:=
 ∃es clock since seen c0,w.heap[b]?=some (.map es clock)∧es.toList.map (fun e=>(e.key,e.val))=m.map (fun x=>(dotV x.1,I x.2))∧Stm es clock∧w.heap[r]?=some (.mapIter (some b) since seen c0)∧(∀x∈es.toList,x.born<since)∧since<=c0∧since<=clock∧
  (leftOf es seen).size=left∧(ss++(leftOf es seen).toList.map unE).Perm m
theorem RgAt.count{w:World}{b r:Nat}{m ss:Lv}{left:Nat}(h:RgAt w b r m ss left):ss.length+left=m.length:=by
 obtain⟨es,clock,since,seen,c0,_,_,_,_,_,_,_,hl,hp⟩:=h;have:=hp.length_eq;simp only [ah,av,Array.length_toList] at this;omega
theorem RgAt.same{w w':World}{b r:Nat}{m ss:Lv}{left:Nat}(h:RgAt w b r m ss left)(hk:KeepsWalks w w'):RgAt w' b r m ss left:=by
 obtain⟨es,clock,since,seen,c0,hb,he,hs,hr,rest⟩:=h;exact⟨es,clock,since,seen,c0,hk.same b _ hb rfl,he,hs,hk.same r _ hr rfl,rest⟩
theorem RgAt.iter{w:World}{b r:Nat}{m ss:Lv}{left:Nat}(h:RgAt w b r m ss left):∃o:Obj,w.heap[r]?=some o∧o.isWalk=true:=by
 obtain⟨es,clock,since,seen,c0,hb,he,hs,hr,rest⟩:=h;exact⟨_,hr,rfl⟩
theorem zll(w:World)(b:Nat)(m:Lv)(h:MpAt w b m):
  ∃w',(Instr.range 200 (.map (some b))).run Tryz.prog w= .ok (.pointer (some ⟨w.heap.size,0,none⟩)) w'∧RgAt w' b w.heap.size m [] m.length∧w.grownBy w' none∧w'.heap.size=w.heap.size+1:=by
 have hlt:=h.lt;obtain⟨es,clock,hb,he,hs⟩:=h
 have hl:(leftOf es #[])=es:=by
  unfold leftOf;exact Array.filter_eq_self.2 (fun x _=>by simp)
 refine⟨_,run_range_map w 200 _ _ b es clock Tryz.underlying200 hb,⟨es,clock,clock, #[],clock,((MapKept.heap_alloc w _).2 b hlt).trans hb,he,hs,(MapKept.heap_alloc w _).1,hs.1,ac _,ac _, ?_, ?_⟩,World.grownBy_alloc w _ none,by simp⟩
 ·rw [hl,zn7 he]
 ·rw [hl,List.nil_append,ents_un he]
theorem znm(w:World)(ty:TypeId)(b r:Nat)(m ss:Lv)(left:Nat)(h:RgAt w b r m ss left):
  (ss.Perm m∧(Instr.next (.pointer (some ⟨r,0,none⟩)) false ty).run Tryz.prog w= .ok (.tuple #[.bool false]) w)∨
  ∃d v w' left',(Instr.next (.pointer (some ⟨r,0,none⟩)) false ty).run Tryz.prog w= .ok (.tuple #[.bool true,dotV d,I v]) w'∧RgAt w' b r m (ss++ [(d,v)]) left'∧left'<left∧w.grownBy w' (some r)∧w'.heap.size=w.heap.size∧(Instr.entry (.pointer (some ⟨r,0,none⟩))).run Tryz.prog w'= .ok (.tuple #[dotV d,I v]) w':=by
 obtain⟨es,clock,since,seen,c0,hb,he,hs,hr,hold,hsc,hsk,hl,hp⟩:=h
 have hne:r ≠ b:=by
  intro e;rw [e,hb] at hr;cases hr
 rcases run_next_at (P:=Tryz.prog) w ty r b since c0 seen es clock hr hb hold hsc with⟨h0,hrun⟩ | ⟨e,hem,w1,hal,hrun⟩
 ·refine Or.inl ⟨?_,hrun⟩
  have:(leftOf es seen).toList= []:=by
   have h1:(leftOf es seen)= #[]:=Array.eq_empty_of_size_eq_zero h0;rw [h1]
  rw [this] at hp;simpa using hp
 ·obtain⟨hes,hns⟩:=mem_left hem
  obtain⟨hk,hv⟩:=ent_of he hes;have hr1:w1.heap[r]?=some (.mapIter (some b) since seen c0):=by rcases hal with rfl | rfl<;>exact hr
  have hb1:w1.heap[b]?=some (.map es clock):=by rcases hal with rfl | rfl<;>exact hb
  have hset:=MapKept.heap_set (o':= .mapIter (some b) since (seen.push e.born) clock) hr1;have hb':(ChangeMaps.setBlock w1 r (.mapIter (some b) since (seen.push e.born) clock)).heap[b]?=some (.map es clock):=(hset.2 b (fun e1=>hne e1.symm)).trans hb1;rw [hk,hv] at hrun;refine Or.inr ⟨(unE e).1,(unE e).2,_,_,hrun,⟨es,clock,since,seen.push e.born,clock,hb',he,hs,hset.1,hold,hsk,hsk,rfl, ?_⟩,hl ▸ left_shrinks es seen e hem, ?_, ?_, ?_⟩
  ·have h1:=(zwm hs.2 hem).map unE
   refine List.Perm.trans ?_ hp;rw [au];exact List.Perm.append_left ss h1.symm
  ·rcases hal with rfl | rfl<;>exact⟨rfl,rfl,rfl,by simp [ChangeMaps.setBlock],fun i _ hi=>hset.2 i (fun e1=>hi (by rw [e1]))⟩
  ·rcases hal with rfl | rfl<;>simp [ChangeMaps.setBlock]
  ·have h2:=run_entry_at (P:=Tryz.prog) _ r b since seen es clock e hset.1 hb' hes hs.2
   rw [hk,hv] at h2;exact h2
variable {H : Type} {enc : TypeId × Value -> H} {W : World} {base : Nat} {spare : Nat -> Bool} {held : Bool}
theorem zfy:Tryz.prog.cellsOf 3=1:=by kernel_rfl
theorem uInt:Tryz.prog.underlying 3=some (.int .i64):=by kernel_rfl
theorem zls{w:World}{a:Addr}{v:Value}(h:w.cell? a=some v):a=⟨a.block,a.off,none⟩:=by
 obtain⟨b,o,s⟩:=a;cases s with
 | none=>rfl
 | some s=>
  unfold World.cell? at h;split at h<;>simp at h
theorem pick{α:Type}(R:Nat->α->Prop):∀n,(∀i,i<n->∃x,R i x)->∃xs:List α,xs.length=n∧∀i (hi:i<xs.length),R i xs[i]
 | 0,_=>⟨[],rfl,fun i hi=>absurd hi (by simp)⟩
 | n+1,h=>by
  obtain⟨xs,hl,hx⟩:=pick R n fun i hi=>h i (by omega)
  obtain⟨x,hr⟩:=h n (by omega);refine⟨xs++ [x],by simp [hl],fun i hi=> ?_⟩;rcases Nat.lt_or_ge i xs.length with h1 | h1
  ·rw [List.getElem_append_left h1];exact hx i h1
  ·have:i=xs.length:=by simp at hi;omega
   subst this;rw [List.getElem_append_right (ac _)];simpa [hl] using hr
theorem at_rows{α:Type}(f:α->List Value)(k:Nat)(hk:0<k)(hf:∀x,(f x).length=k){w:World}{base:Nat}{a:Addr}{xs:List α}(h:∀i (hi:i<xs.length),w.cells? base (a.add (i*k)) k=some (f xs[i])):At w (some a) (flat f xs):=by
 intro j u hj;have hjl:j<xs.length*k:=by rw [←zan f k hf xs];exact(af.1 hj).1
 have hi:j / k<xs.length:=Nat.div_lt_of_lt_mul (by rw [Nat.mul_comm];exact hjl);have hr:j % k<k:=Nat.mod_lt _ hk;have hpos:0<xs.length:=Nat.lt_of_le_of_lt (az _) hi;have h0:=(World.cells?_some (h 0 hpos)).2.2 0 hk;rw [Nat.zero_mul,show(a.add 0).add 0=a by simp [Addr.add],ag (by rw [hf];exact hk)] at h0;have hp:=zls h0;have hc:=(World.cells?_some (h (j / k) hi)).2.2 (j % k) hr;rw [←zao f k hf xs (j / k) hi (j % k) hr,show j / k*k+j % k=j by rw [Nat.mul_comm];exact Nat.div_add_mod j k,hj] at hc;refine⟨a.block,a.off,by rw [←hp], ?_⟩;rw [hp] at hc;rw [Addr.add_lit,Addr.add_lit,Nat.add_assoc,show j / k*k+j % k=j by rw [Nat.mul_comm];exact Nat.div_add_mod j k] at hc;exact hc
theorem zfd{P:Program}{e:TypeId}:∀{l:List (DataW H)} {d:DataW H},d∈l->∀n∈d.weights P e,n∈DataW.weightsAll P e l
 | x::l,d,hd,n,hn=>by
  simp only [DataW.weightsAll,ao];rcases ar.1 hd with rfl | h
  ·exact Or.inl hn
  ·exact Or.inr (zfd h n hn)
theorem znj{P:Program}{t e:TypeId}{es sp:List (DataW H)}{R:Nat}(hu:P.underlying t=some (.slice e))(h:∀n∈(DataW.slice es sp).weights P t,n<=R):(es.length+sp.length)*P.bytesOf e<=R∧∀d∈es,∀n∈d.weights P e,n<=R:=by
 simp only [DataW.weights,hu] at h;exact⟨h _ (by simp),fun d hd n hn=>h n (by simp [zfd hd n hn])⟩
theorem zsl{a s b R:Nat}(h:(a+s)*b<=R):a*b<=R:=aQ (Nat.mul_le_mul_right _ (Nat.le_add_right _ _)) h
theorem laidMet.less{P:Program}{x y:String×DataW Unit}{r:List (String×DataW Unit)}{w:World}(h:laidMet P (x::y::r) w):laidMet P (x::r) w:=by
 obtain⟨ps,hv,hnd,hrows⟩:=h;obtain⟨n,d⟩:=x;obtain⟨n2,d2⟩:=y;obtain⟨g,t,cs,fuel,p,q,h1,h2,h3,h4,⟨g',t',cs',fuel',p',q',_,_,_,_,hq,rfl⟩,rfl⟩:=hv;have hsub:(MemPlace.row ⟨g,0,none⟩ cs.size++p++q').Sublist (MemPlace.row ⟨g,0,none⟩ cs.size++p++(MemPlace.row ⟨g',0,none⟩ cs'.size++p'++q')):=(List.Sublist.refl _).append (List.sublist_append_right _ _);exact⟨_,⟨g,t,cs,fuel,p,q',h1,h2,h3,h4,hq,rfl⟩,hnd.sublist hsub,fun b off hm=>hrows b off (hsub.subset hm)⟩
def lits{H:Type}(l:List Int):DataW H:= .agg (l.map fun z=> .lit (.int .i64 z))
theorem uInt':Tryz.prog.underlying 3=some (.int .i64):=by kernel_rfl
theorem zgd:Tryz.prog.cellsOf 3=1:=by kernel_rfl
theorem uKind:Tryz.prog.underlying 115=some (.int .i64):=by kernel_rfl
theorem zxz:Tryz.prog.cellsOf 115=1:=by kernel_rfl
theorem uFit:Tryz.prog.underlying 116=some (.int .i64):=by kernel_rfl
theorem cellsFit:Tryz.prog.cellsOf 116=1:=by kernel_rfl
theorem zm2:Tryz.prog.cellsOf 118=6:=by kernel_rfl
theorem zyh{H:Type}{enc:TypeId×Value->H}{W:World}{base:Nat}{spare:Nat->Bool}{held:Bool}{fuel:Nat}{cs:List Value}{x:DataW H×List MemPlace}(h:DataW.trod enc Tryz.prog W base spare held fuel 118 cs=some x):
  ∃zs:List Int,zs.length=6∧cs=zs.map I∧x.1=lits zs:=by
 obtain⟨xs,n,_,hx,hl,hlen,hf⟩:=DataW.trod_struct Tryz.underlying118 h;rw [zm2] at hl;match xs,hlen with
 | [y0,y1,y2,y3,y4,y5],_=>
  match cs,hl with
  | [c0,c1,c2,c3,c4,c5],_=>
   have h0:DataW.trod enc Tryz.prog W base spare held n 115 [c0]=some y0:=by have:=hf 0 _ rfl;simpa [zxz] using this
   have h1:DataW.trod enc Tryz.prog W base spare held n 3 [c1]=some y1:=by have:=hf 1 _ rfl;simpa [zgd] using this
   have h2:DataW.trod enc Tryz.prog W base spare held n 3 [c2]=some y2:=by have:=hf 2 _ rfl;simpa [zgd] using this
   have h3:DataW.trod enc Tryz.prog W base spare held n 116 [c3]=some y3:=by have:=hf 3 _ rfl;simpa [cellsFit] using this
   have h4:DataW.trod enc Tryz.prog W base spare held n 3 [c4]=some y4:=by have:=hf 4 _ rfl;simpa [zgd] using this
   have h5:DataW.trod enc Tryz.prog W base spare held n 3 [c5]=some y5:=by have:=hf 5 _ rfl;simpa [zgd] using this
   obtain⟨z0,e0,d0,_⟩:=DataW.trod_int uKind h0;obtain⟨z1,e1,d1,_⟩:=DataW.trod_int uInt' h1;obtain⟨z2,e2,d2,_⟩:=DataW.trod_int uInt' h2;obtain⟨z3,e3,d3,_⟩:=DataW.trod_int uFit h3;obtain⟨z4,e4,d4,_⟩:=DataW.trod_int uInt' h4;obtain⟨z5,e5,d5,_⟩:=DataW.trod_int uInt' h5;simp at e0 e1 e2 e3 e4 e5;exact⟨[z0,z1,z2,z3,z4,z5],rfl,by simp [e0,e1,e2,e3,e4,e5],by rw [hx];simp [lits,d0,d1,d2,d3,d4,d5]⟩
theorem zzx{H:Type}{a b:List Int}(h:(lits a:DataW H)=lits b):a=b:=by
 simp only [lits,DataW.agg.injEq] at h;exact List.map_inj_right (fun x y e=>by simpa using e) |>.1 h
theorem zvw:(Rows.laid_weave_batch_rules:DataW Unit)= .agg ((List.range 7).map fun i=>lits ((tab.drop (i*6)).take 6)):=by kernel_rfl
theorem zvc{enc:TypeId×Value->Unit}{W:World}{base:Nat}{spare:Nat->Bool}{held:Bool}{fuel:Nat}{cs:List Value}{p:List MemPlace}(h:DataW.trod enc Tryz.prog W base spare held fuel 180 cs=some (Rows.laid_weave_batch_rules,p)):
  ∀j,j<42->cs[j]?=some (I (tab.getD j 0)):=by
 obtain⟨xs,m,_,hx,hl,hlen,hf⟩:=DataW.trod_array Tryz.underlying180 h;rw [zm2] at hf
 have hxs:xs.map (·.1)=(List.range 7).map fun i=>lits ((tab.drop (i*6)).take 6):=by
  have:=aD Prod.fst hx;rw [zvw] at this;simpa using this.symm
 intro j hj;have hi:j / 6<7:=by omega
 have hr:j % 6<6:=Nat.mod_lt _ (by omega);have h1:=hf (j / 6) hi;rw [ag (by omega)] at h1;obtain⟨zs,hz,e1,e2⟩:=zyh h1
 have e3:(xs[j / 6]'(by omega)).1=lits ((tab.drop (j / 6*6)).take 6):=by
  have:=aD (fun l=>l[j / 6]?) hxs;simpa [hi,hlen] using this
 have e4:=zzx (e2.symm.trans e3)
 have e5:((cs.drop (j / 6*6)).take 6)[j % 6]?=cs[j]?:=by
  rw [aL hr,List.getElem?_drop,show j / 6*6+j % 6=j by omega]
 rw [←e5,e1,e4,List.getElem?_map,aL hr,List.getElem?_drop,show j / 6*6+j % 6=j by omega];have ht:j<tab.length:=hj;simp [List.getD,ht]
