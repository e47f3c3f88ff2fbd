import Derived.Test.YtfmcngncaffloaaGreatDoorG02BkF
import Derived.ShutString
import Derived.Lib.SmallJoins
import Derived.Laws.CopyOwn
import Derived.Laws.OwnMore
import Derived.Deep.MidRow
import Derived.Maps.AppendAt
import Derived.Conc.LoneCalls
import Derived.Conc.LoneSelect
import Derived.Lib.ConvBytes
import Derived.Shelf.LaysM
import Derived.Shelf.Strconv.Itoa3
import Derived.Ground.Names2Prog
import Derived.Lib.LaidTab
import Derived.Deep.AppendLies
import Derived.ArgAppend
import Derived.Laws.IdiomCopy
set_option maxHeartbeats 400000
namespace Go.Proofs.YtfmcngncaffloaaGreatDoor
open Go.RowKit
set_option maxRecDepth 100000
abbrev B8 (b:UInt8):Value:= .int .u8 (b.toNat:Int)
theorem zjc(w:World)(a:Addr)(cap:Nat)(l:List UInt8)(hc:∀j u,(l.map B8)[j]?=some u->w.cell? (a.add j)=some u):
  (convert 170 9 (.slice (some a) l.length cap)).run Tryz.prog w= .ok (.string ⟨l.toArray⟩) w:=
 run_convert_bytes_back w _ _ _ a cap l Tryz.underlying170 Tryz.underlying5 Tryz.underlying9 (fun j hj=>hc j _ (by simp [hj]))
theorem zx2(w:World)(l:List UInt8)(cs:Array Value)(k cap:Nat)(hk:k=l.length)(hcs:cs=(l.map B8).toArray):
  (convert 170 9 (.slice (some ⟨w.heap.size,0,none⟩) k cap)).run Tryz.prog (w.alloc (.cells cs 5))= .ok (.string ⟨l.toArray⟩) (w.alloc (.cells cs 5)):=by
 subst hk hcs
 refine zjc _ _ _ l fun j u hu=> ?_
 rw [Addr.add_lit,Nat.zero_add,World.cell?_alloc_mark]
 simpa using hu
theorem zro{a b:ByteArray}(h:a=b):Ending.returned (.string a)= .returned (.string b):=by rw [h]
theorem zap(a b:List UInt8):(⟨a.toArray⟩++⟨b.toArray⟩:ByteArray)=⟨(a++b).toArray⟩:=by
 apply ByteArray.ext
 simp [ByteArray.data_append]
theorem zyl(s:ByteArray):s=⟨s.data.toList.toArray⟩:=by apply ByteArray.ext;simp
theorem zvq(s:ByteArray)(w:World)(hs:s.size<=1048576):
  Calls Tryz.prog 160 #[.string s] w fun e w'=>e= .returned (.string ⟨(s.data.toList++Wv.be4 (Wv.sum s.data.toList:Nat)).toArray⟩)∧Below w.heap.size w w':=by
 have hq:=zx2 w (Wv.be4 (Wv.sum s.data.toList:Nat)) #[.int .u8 ((Wv.sum s.data.toList:Int) / 16777216 % 256), .int .u8 ((Wv.sum s.data.toList:Int) / 65536 % 256), .int .u8 ((Wv.sum s.data.toList:Int) / 256 % 256), .int .u8 ((Wv.sum s.data.toList:Int) % 256)] 4 4 rfl
  (by simp only [Wv.be4,B8,List.map,Wv.ofNat_toNat])
 have hm:s.size<=maxLen:=by unfold maxLen;omega
 have hle:¬9223372036854775807<s.size+(Wv.be4 (Wv.sum s.data.toList:Nat)).length:=by simp [Wv.be4];omega
 go_enter Tryz.func160,Tryz.ntmps160
 go_wp2_with (go_at_call 186;refine(zzz _ _ hm).mono ?_;rintro e w' ⟨rfl,h⟩;subst h)
 go_ret
 exact⟨zro (by rw [zyl s,zap]),by go_grown⟩
abbrev I (n:Int):Value:= .int .i64 n
abbrev Sent (a:Addr):Value:= .iface 308 (.pointer (some a))
abbrev Flt (s:ByteArray) (why:Value):Value:= .iface 202 (.agg #[.string s,why])
structure Gl(w:World)(eb ef:Addr):Prop where
 errBatch:w.cell? ⟨0,0,none⟩=some (Sent eb)
 errFrame:True
 ne:eb ≠ ef
 atB:∃ca ta,w.heap[eb.block]?=some (.cells ca ta (0,0))
 atF:∃ca ta,w.heap[ef.block]?=some (.cells ca ta (0,0))
 rules:∀j,j<42->w.cell? ⟨1,j,none⟩=some (I (Wv.tab.getD j 0))
theorem zag{w:World}{b o:Nat}{u:Value}(h:w.cell? ⟨b,o,none⟩=some u):b<w.heap.size:=World.block_lt_of_cell? w _ h
theorem ziy{w:World}{k:Nat}{o:Obj}(h:w.heap[k]?=some o):k<w.heap.size:=(Array.getElem?_eq_some_iff.1 h).1
theorem zaa{w w':World}(hb:Below w.heap.size w w'){b o:Nat}{u:Value}(h:w.cell? ⟨b,o,none⟩=some u):w'.cell? ⟨b,o,none⟩=some u:=by
 rw [hb.cell (p:=⟨b,o,none⟩) (zag h)];exact h
theorem zk1{w w':World}(hb:Below w.heap.size w w'){k:Nat}{o:Obj}(h:w.heap[k]?=some o):w'.heap[k]?=some o:=by
 rw [hb.block k (ziy h)];exact h
theorem Gl.kept{w w':World}{eb ef:Addr}(g:Gl w eb ef)(hb:Below w.heap.size w w'):Gl w' eb ef:=
 ⟨zaa hb g.errBatch,trivial,g.ne,g.atB.imp fun _ h=>h.imp fun _ h=>zk1 hb h,g.atF.imp fun _ h=>h.imp fun _ h=>zk1 hb h,fun j h=>zaa hb (g.rules j h)⟩
theorem zal{B:Nat}{w w':World}(h:Below B w w')(n:Nat):Below B w (w'.drewN n):=⟨h.os,h.tape,h.output,h.size,h.block⟩
def zab(d:Wv.Dt):List Value:= [I d.o,I d.s,I d.i]
abbrev dotV (d:Wv.Dt):Value:= .agg #[I d.o,I d.s,I d.i]
def At(w:World)(a:Option Addr)(cells:List Value):Prop:=∀j u,cells[j]?=some u->∃b o,a=some ⟨b,o,none⟩∧w.cell? ⟨b,o+j,none⟩=some u
theorem At.kept{w w':World}{a:Option Addr}{cs:List Value}(h:At w a cs)(hb:Below w.heap.size w w'):At w' a cs:=by
 intro j u hj
 obtain⟨b,o,e,hc⟩:=h j u hj
 exact⟨b,o,e,zaa hb hc⟩
theorem At.first{w:World}{a:Option Addr}{cs:List Value}(h:At w a cs)(hn:0<cs.length):∃b o,a=some ⟨b,o,none⟩∧b<w.heap.size∧∀j u,cs[j]?=some u->w.cell? ⟨b,o+j,none⟩=some u:=by
 obtain⟨b,o,e,hc⟩:=h 0 _ (List.getElem?_eq_getElem hn)
 refine⟨b,o,e,zag hc,fun j u hj=> ?_⟩
 obtain⟨b',o',e',hc'⟩:=h j u hj
 rw [e] at e'
 cases e'
 exact hc'
abbrev batV (b:Wv.Bt) (ca:Option Addr) (cc:Nat) (ev:Value):Value:= .agg #[I b.o,I b.s,I b.t, .slice ca b.clock.length cc,ev]
theorem zoi{w:World}{ca:Option Addr}{zs:List Int}(h:At w ca (zs.map I)){k:Nat}(hk:k<zs.length):∃b o,ca=some ⟨b,o,none⟩∧b<w.heap.size∧w.cell? ⟨b,o+k,none⟩=some (I (zs.getD k 0)):=by
 obtain⟨b,o,e,hb,hc⟩:=h.first (by simp;omega)
 exact⟨b,o,e,hb,hc k _ (by simp [hk])⟩
structure Em where
 e:Wv.Ef
 da:Option Addr
 dc:Nat
def Em.dv(m:Em):Value:= .slice m.da m.e.dots.length m.dc
def Em.cells(m:Em):List Value:= [I m.e.op,I m.e.ob,I m.e.va,I m.e.ref.o,I m.e.ref.s,I m.e.ref.i,m.dv]
abbrev effV (m:Em):Value:= .agg #[I m.e.op,I m.e.ob,I m.e.va,I m.e.ref.o,I m.e.ref.s,I m.e.ref.i, .slice m.da m.e.dots.length m.dc]
def flat{α:Type}(f:α->List Value):List α->List Value
 | []=> []
 | x::l=>f x++flat f l
theorem zaq{α:Type}(f:α->List Value)(n:Nat)(hf:∀x,(f x).length=n):∀l:List α,(flat f l).length=l.length*n
 | []=>by simp [flat]
 | x::l=>by simp [flat,hf,zaq f n hf l,Nat.add_mul];omega
theorem zak{α:Type}(f:α->List Value)(n:Nat)(hf:∀x,(f x).length=n):∀(l:List α) (k:Nat) (hk:k<l.length) (j:Nat),j<n->(flat f l)[k*n+j]?=(f l[k])[j]?
 | x::l,0,_,j,hj=>by
  rw [flat,List.getElem?_append_left (by rw [hf];omega)];simp
 | x::l,k+1,hk,j,hj=>by
  rw [flat,List.getElem?_append_right (by rw [hf,Nat.add_mul];omega),hf,show(k+1)*n+j - n=k*n+j by rw [Nat.add_mul];omega]
  have:=zak f n hf l k (by simpa using hk) j hj
  simpa using this
theorem zat(d:Wv.Dt):(zab d).length=3:=rfl
theorem zbu(m:Em):m.cells.length=7:=rfl
structure BatAt(w:World)(b:Wv.Bt)(ca ea:Option Addr)(ms:List Em):Prop where
 clock:At w ca (b.clock.map I)
 effs:b.effs=ms.map (·.e)
 cells:At w ea (flat Em.cells ms)
 dots:∀m∈ms,At w m.da (flat zab m.e.dots)
abbrev bV (b:Wv.Bt) (ca ea:Option Addr) (cc ec:Nat):Value:=batV b ca cc (.slice ea b.effs.length ec)
theorem BatAt.kept{w w':World}{b:Wv.Bt}{ca ea:Option Addr}{ms:List Em}(h:BatAt w b ca ea ms)(hb:Below w.heap.size w w'):BatAt w' b ca ea ms:=
 ⟨h.clock.kept hb,h.effs,h.cells.kept hb,fun m hm=>(h.dots m hm).kept hb⟩
theorem zdd{w:World}{da:Option Addr}{ds:List Wv.Dt}(h:At w da (flat zab ds))(hn:0<ds.length):∃p q,da=some ⟨p,q,none⟩∧p<w.heap.size∧
  ∀k (hk:k<ds.length),w.cell? ⟨p,q+k*3,none⟩=some (I ds[k].o)∧w.cell? ⟨p,q+k*3+1,none⟩=some (I ds[k].s)∧w.cell? ⟨p,q+k*3+2,none⟩=some (I ds[k].i):=by
 obtain⟨p,q,e,hp,hc⟩:=h.first (by rw [zaq _ 3 zat];omega)
 refine⟨p,q,e,hp,fun k hk=>⟨?_, ?_, ?_⟩⟩
 ·have:=hc (k*3+0) _ ((zak zab 3 zat ds k hk 0 (by omega)).trans rfl);simpa using this
 ·have:=hc (k*3+1) _ ((zak zab 3 zat ds k hk 1 (by omega)).trans rfl);simpa [Nat.add_assoc] using this
 ·have:=hc (k*3+2) _ ((zak zab 3 zat ds k hk 2 (by omega)).trans rfl);simpa [Nat.add_assoc] using this
theorem ze0{w:World}{ea:Option Addr}{ms:List Em}(h:At w ea (flat Em.cells ms))(hn:0<ms.length):∃p q,ea=some ⟨p,q,none⟩∧p<w.heap.size∧
  ∀k (hk:k<ms.length),w.cell? ⟨p,q+k*7,none⟩=some (I ms[k].e.op)∧w.cell? ⟨p,q+k*7+1,none⟩=some (I ms[k].e.ob)∧w.cell? ⟨p,q+k*7+2,none⟩=some (I ms[k].e.va)∧
   w.cell? ⟨p,q+k*7+3,none⟩=some (I ms[k].e.ref.o)∧w.cell? ⟨p,q+k*7+4,none⟩=some (I ms[k].e.ref.s)∧w.cell? ⟨p,q+k*7+5,none⟩=some (I ms[k].e.ref.i)∧
   w.cell? ⟨p,q+k*7+6,none⟩=some (.slice ms[k].da ms[k].e.dots.length ms[k].dc):=by
 obtain⟨p,q,e,hp,hc⟩:=h.first (by rw [zaq _ 7 zbu];omega)
 refine⟨p,q,e,hp,fun k hk=>⟨?_, ?_, ?_, ?_, ?_, ?_, ?_⟩⟩
 ·have:=hc (k*7+0) _ ((zak Em.cells 7 zbu ms k hk 0 (by omega)).trans rfl);simpa using this
 ·have:=hc (k*7+1) _ ((zak Em.cells 7 zbu ms k hk 1 (by omega)).trans rfl);simpa [Nat.add_assoc] using this
 ·have:=hc (k*7+2) _ ((zak Em.cells 7 zbu ms k hk 2 (by omega)).trans rfl);simpa [Nat.add_assoc] using this
 ·have:=hc (k*7+3) _ ((zak Em.cells 7 zbu ms k hk 3 (by omega)).trans rfl);simpa [Nat.add_assoc] using this
 ·have:=hc (k*7+4) _ ((zak Em.cells 7 zbu ms k hk 4 (by omega)).trans rfl);simpa [Nat.add_assoc] using this
 ·have:=hc (k*7+5) _ ((zak Em.cells 7 zbu ms k hk 5 (by omega)).trans rfl);simpa [Nat.add_assoc] using this
 ·have:=hc (k*7+6) _ ((zak Em.cells 7 zbu ms k hk 6 (by omega)).trans rfl);simpa [Nat.add_assoc,Em.dv] using this
def Blk(w:World)(g:Nat)(cs:Array Value)(t:TypeId):Prop:=w.heap[g]?=some (.cells cs t (0,0))
theorem Blk.cell{w:World}{g:Nat}{cs:Array Value}{t:TypeId}(h:Blk w g cs t)(j:Nat):w.cell? ⟨g,j,none⟩=cs[j]?:=by
 rw [cell_of_row w g j cs t (0,0) h]
theorem Blk.frozen{w:World}{g:Nat}{cs:Array Value}{t:TypeId}(h:Blk w g cs t)(j:Nat):w.frozen? ⟨g,j,none⟩=false:=frozen_of_row w g j cs t h
theorem Blk.set{w:World}{g:Nat}{cs:Array Value}{t:TypeId}(h:Blk w g cs t)(j:Nat)(u:Value):Blk (w.setCell ⟨g,j,none⟩ u) g (cs.setIfInBounds j u) t:=heap_setCell_same w g j cs t u h
theorem Blk.other{w:World}{g:Nat}{cs:Array Value}{t:TypeId}(h:Blk w g cs t){a:Addr}(ha:g ≠ a.block)(u:Value):Blk (w.setCell a u) g cs t:=(heap_setCell_other w a g u ha).trans h
theorem Blk.lt{w:World}{g:Nat}{cs:Array Value}{t:TypeId}(h:Blk w g cs t):g<w.heap.size:=by
 have:=Array.getElem?_eq_some_iff.1 h
 exact this.1
theorem Blk.grown{w w':World}{g:Nat}{cs:Array Value}{t:TypeId}{row:Option Nat}(h:Blk w g cs t)(hg:w.grownBy w' row)(hne:some g ≠ row):Blk w' g cs t:=(hg.block g h.lt hne).trans h
theorem Blk.kept{w w':World}{B g:Nat}{cs:Array Value}{t:TypeId}(h:Blk w g cs t)(hb:Below B w w')(hg:g<B):Blk w' g cs t:=(hb.block g hg).trans h
theorem Blk.second(w:World)(o:Obj)(cs:Array Value)(t:TypeId):Blk ((w.alloc o).alloc (.cells cs t)) (w.heap.size+1) cs t:=by
 have:=heap_alloc_new (w.alloc o) (.cells cs t)
 rwa [show(w.alloc o).heap.size=w.heap.size+1 by simp] at this
theorem zwn{w:World}{base:Nat}{e:TypeId}{size g n c:Nat}{xs:List Value}(h:w.ownsRow base e size (.slice (some ⟨g,0,none⟩) n c) n xs):At w (some ⟨g,0,none⟩) xs:=by
 intro j u hj
 refine⟨g,0,rfl, ?_⟩
 have hl:j<xs.length:=(List.getElem?_eq_some_iff.1 hj).1
 rw [Nat.zero_add,h.cellAt j (by rw [←h.1];exact hl)]
 exact hj
theorem zah{w w':World}{base:Nat}{e:TypeId}{size n:Nat}{v:Value}{xs:List Value}(h:w.ownsRow base e size v n xs)(hb:∀g,v.ownBlock=some g->w'.heap[g]?=w.heap[g]?):w'.ownsRow base e size v n xs:=by
 refine⟨h.1, ?_⟩
 rcases h.2 with h2 | ⟨g,cap,cur,rfl,hbg,hg,r⟩
 ·exact .inl h2
 ·exact .inr ⟨g,cap,cur,rfl,hbg,(hb g rfl).trans hg,r⟩
theorem zas(w:World)(cs:List Value)(t:TypeId):∀j u,cs[j]?=some u->(w.alloc (.cells cs.toArray t)).cell? ((⟨w.heap.size,0,none⟩:Addr).add j)=some u:=by
 intro j u hu
 rw [Addr.add_lit,Nat.zero_add,World.cell?_alloc_mark]
 simpa using hu
theorem zb2(w:World)(cs:List Value)(t:TypeId):∀j u,cs[j]?=some u->(w.alloc (.cells cs.toArray t)).drew.cell? ((⟨w.heap.size,0,none⟩:Addr).add j)=some u:=zas w cs t
theorem Blk.drew{w:World}{g:Nat}{cs:Array Value}{t:TypeId}(h:Blk w g cs t):Blk w.drew g cs t:=h
theorem Blk.alloc{w:World}{g:Nat}{cs:Array Value}{t:TypeId}(h:Blk w g cs t)(o:Obj):Blk (w.alloc o) g cs t:=(Below.heap_alloc w o g h.lt).trans h
structure Tch(F:Nat->Prop)(w w':World):Prop where
 os:w'.os=w.os
 tape:w'.tape=w.tape
 output:w'.output=w.output
 size:w.heap.size<=w'.heap.size
 block:∀k,k<w.heap.size->¬F k->w'.heap[k]?=w.heap[k]?
theorem Tch.refl(F:Nat->Prop)(w:World):Tch F w w:=⟨rfl,rfl,rfl,Nat.le_refl _,fun _ _ _=>rfl⟩
theorem Tch.mono{F G:Nat->Prop}{w w':World}(h:Tch F w w')(hs:∀k,k<w.heap.size->F k->G k):Tch G w w':=
 ⟨h.os,h.tape,h.output,h.size,fun k hk hn=>h.block k hk (fun hf=>hn (hs k hk hf))⟩
theorem Tch.trans{F G H:Nat->Prop}{w w1 w2:World}(h:Tch F w w1)(h2:Tch G w1 w2)(hF:∀k,k<w.heap.size->F k->H k)(hG:∀k,k<w.heap.size->G k->H k):Tch H w w2:=
 ⟨h2.os.trans h.os,h2.tape.trans h.tape,h2.output.trans h.output,Nat.le_trans h.size h2.size,fun k hk hn=>(h2.block k (Nat.lt_of_lt_of_le hk h.size) (fun hf=>hn (hG k hk hf))).trans (h.block k hk (fun hf=>hn (hF k hk hf)))⟩
theorem Tch.then{F:Nat->Prop}{w w1 w2:World}(h:Tch F w w1)(h2:Tch F w1 w2):Tch F w w2:=h.trans h2 (fun _ _ h=>h) (fun _ _ h=>h)
theorem Tch.below{F:Nat->Prop}{w w':World}(h:Below w.heap.size w w'):Tch F w w':=⟨h.os,h.tape,h.output,h.size,fun k hk _=>h.block k hk⟩
theorem Tch.grown{w w':World}{row:Option Nat}(h:w.grownBy w' row):Tch (fun k=>row=some k) w w':=
 ⟨h.os,h.tape,h.output,h.size,fun k hk hn=>h.block k hk (fun e=>hn e.symm)⟩
theorem Tch.drew{F:Nat->Prop}{w w':World}(h:Tch F w w'):Tch F w w'.drew:=⟨h.os,h.tape,h.output,h.size,h.block⟩
theorem Tch.drewN{F:Nat->Prop}{w w':World}(h:Tch F w w')(n:Nat):Tch F w (w'.drewN n):=⟨h.os,h.tape,h.output,h.size,h.block⟩
theorem Tch.alloc{F:Nat->Prop}{w w':World}(h:Tch F w w')(o:Obj):Tch F w (w'.alloc o):=
 h.then (Tch.below ((Below.refl _ _).alloc (Nat.le_refl _) o))
theorem Tch.setCell{F:Nat->Prop}{w w':World}(h:Tch F w w')(a:Addr)(v:Value)(ha:F a.block∨w.heap.size<=a.block):Tch F w (w'.setCell a v):=
 ⟨h.os,h.tape,h.output,by simpa using h.size,fun k hk hn=>by
  rw [heap_setCell_other _ a k _ (fun e=>by subst e;rcases ha with ha | ha;exact hn ha;omega)]
  exact h.block k hk hn⟩
theorem Tch.blk{F:Nat->Prop}{w w':World}(h:Tch F w w'){g:Nat}{cur:Array Value}{t:TypeId}(hb:Blk w g cur t)(hn:¬F g):Blk w' g cur t:=(h.block g hb.lt hn).trans hb
theorem Tch.toBelow{F:Nat->Prop}{w w':World}(h:Tch F w w'){B:Nat}(hB:B<=w.heap.size)(hF:∀k,k<B->¬F k):Below B w w':=
 ⟨h.os,h.tape,h.output,h.size,fun k hk=>h.block k (by omega) (hF k hk)⟩
theorem zan{w w':World}{a:Addr}{v:Value}(h:w.cell? a=some v)(hb:w'.heap[a.block]?=w.heap[a.block]?):w'.cell? a=some v:=by
 have:w'.cell? a=w.cell? a:=by unfold World.cell?;rw [hb]
 rw [this];exact h
theorem Tch.cell{F:Nat->Prop}{w w':World}(h:Tch F w w'){g o:Nat}{v:Value}(hc:w.cell? ⟨g,o,none⟩=some v)(hn:¬F g):w'.cell? ⟨g,o,none⟩=some v:=
 zan hc (h.block g (zag hc) hn)
def wpN(P:Program)(c:Code)(Q:Exit->Act->World->Prop)(a:Act)(w:World):Prop:=
 ∀(b:Frame) (k:List Item) (cs:List Frame),b.kind ≠ .early->∃e a' w',Q e a' w'∧Arrives P (lone (b.at a (.code c::k)) cs w) b k cs e a' w'
def wpR(P:Program)(ops:Array Oper)(Q:Exit->Act->World->Prop)(l:List Nat)(a:Act)(w:World):Prop:=
 ∀(b:Frame) (k:List Item) (cs:List Frame),b.kind ≠ .early->∃e a' w',Q e a' w'∧Arrives P (lone (b.at a (.inRegion ops l::k)) cs w) b k cs e a' w'
section
variable {P : Program} {Q : Exit -> Act -> World -> Prop} {a : Act} {w : World} {ops : Array Oper}
theorem zgt{c:Code}(h:c.wp P Q a w):wpN P c Q a w:=fun b k cs _=>h b k cs
theorem zfn{x y:Code}(h:wpN P x (Exit.then (wpN P y Q) Q) a w):wpN P (Code.seq x y) Q a w:=by
 intro b k cs hb
 obtain⟨e,a₁,w₁,hq,harr⟩:=h b (.code y::k) cs hb
 cases e with
 | normal=>
  obtain⟨e₂,a₂,w₂,hq₂,harr₂⟩:=hq b k cs hb
  exact⟨e₂,a₂,w₂,hq₂, .of_steps (.head step_seq harr) harr₂⟩
 | exit id=>exact⟨_,a₁,w₁,hq, .of_steps (.one step_seq) (.pass (x:= .code y) rfl (fun _ _=> .inl (by simp)) harr)⟩
 | goto l=>exact⟨_,a₁,w₁,hq, .of_steps (.one step_seq) (.pass (x:= .code y) rfl (fun _ _=> .inl (by simp)) harr)⟩
 | ret=>exact⟨_,a₁,w₁,hq, .of_steps (.one step_seq) (.pass (x:= .code y) rfl (fun _ _=> .inl (by simp)) harr)⟩
 | panic ch=>exact⟨_,a₁,w₁,hq, .of_steps (.one step_seq) (.pass (x:= .code y) rfl (fun _ _=> .inl (by simp)) harr)⟩
 | outgrown=>exact⟨_,a₁,w₁,hq, .of_steps (.one step_seq) (.pass (x:= .code y) rfl (fun _ _=> .inl (by simp)) harr)⟩
theorem zzq{l:List Nat}(h:wpOps P ops Q l a w):wpR P ops Q l a w:=fun b k cs _=>wp_ops l a w h b k cs
theorem zfm{i:Nat}{rest:List Nat}{o:Oper}{v:Value}{w':World}(ho:ops[i]?=some o)(hw:Region.wanted o (yielded ops a.tmps)=true)(hr:(execOp a.eval o).run P w= .ok (.value v) w')(h:wpR P ops Q rest (a.put o.dst v) w'):wpR P ops Q (i::rest) a w:=by
 intro b k cs hb
 obtain⟨e,a',w'',hq,harr⟩:=h b k cs hb
 have hg:=stepG_op (P:=P) (b:=b) (k:=k) (cs:=cs) (w:=w) (rest:=rest) ho hw
 have hfin:(b.at a (.inRegion ops (i::rest)::k)).finish v=b.at (a.put o.dst v) (.inRegion ops rest::k):=by rw [Frame.finish_at,ho];rfl
 refine⟨e,a',w'',hq, .of_steps (.one (step_lone_go ?_)) harr⟩
 rw [hg,←hfin];simp [stepG.apply,hr]
theorem zme{i:Nat}{rest:List Nat}{o:Oper}{v:Value}{w1 w':World}{cases:Array CommCase}{blocking:Bool}{shape:CommShape}(ho:ops[i]?=some o)(hw:Region.wanted o (yielded ops a.tmps)=true)(hr:(execOp a.eval o).run P w= .ok (.comm cases blocking shape) w1)
  (hst:∀fr cs es,stepG P true (Go.Conc.G fr cs) w= .comm (Go.Conc.G fr cs) cases blocking shape w1 es->step P (Go.Conc.solo (Go.Conc.G fr cs) w)= .next (Go.Conc.solo (Go.Conc.G (fr.finish v) cs) w')) (h:wpR P ops Q rest (a.put o.dst v) w'):wpR P ops Q (i::rest) a w:=by
 intro b k cs hb
 obtain⟨e,a',w'',hq,harr⟩:=h b k cs hb
 have hfin:(b.at a (.inRegion ops (i::rest)::k)).finish v=b.at (a.put o.dst v) (.inRegion ops rest::k):=by rw [Frame.finish_at,ho];rfl
 have hs:=hst (b.at a (.inRegion ops (i::rest)::k)) cs _ (Go.Conc.stepG_comm ho hw hb hr)
 rw [hfin,←Go.Conc.lone_eq_solo,←Go.Conc.lone_eq_solo] at hs
 exact⟨e,a',w'',hq, .of_steps (.one hs) harr⟩
theorem zib{id:Nat}(h:wpR P ops Q (List.range ops.size) a w):wpN P (Code.region id ops false) Q a w:=
 fun b k cs hb=>let ⟨e,a',w',q,r⟩:=h b k cs hb;⟨e,a',w',q, .of_steps (.one step_region) r⟩
theorem zri(h:Q .normal a w):wpR P ops Q [] a w:=zzq h
end
theorem zgp{P:Program}{f:FuncId}{fn:Func}{c:Code}{args:Array Value}{w:World}{R:Ending->World->Prop}
  (hf:P.funcs[f]?=some fn) (hb:fn.body=some c)
  (h:wpN P c (bodyPost P fn R) {tmps:=args++Array.replicate (fn.ntmps - args.size) undef,defers:= []} w):
  Calls P f args w R:=by
 intro cs
 let b:Frame:={(default:Frame) with fn:=f,kind:= .normal}
 have henter:Frame.enter P f args .normal=
   b.at {tmps:=args++Array.replicate (fn.ntmps - args.size) undef,defers:= []} [.code c]:=by
  simp [Frame.enter,Frame.at,hf,hb,b]
 obtain⟨e,a',w',hq,harr⟩:=h b [] cs (by simp [b])
 rw [←henter] at harr
 cases e with
 | normal=>
  obtain⟨hd,v,hr,hR⟩:=hq
  exact⟨.returned v,w',_,hR,Steps.trans harr (.one step_end),rfl,rfl,hd,rfl,fn,hf,hr⟩
 | ret=>
  obtain⟨hd,v,hr,hR⟩:=hq
  obtain⟨todo,hs⟩:=harr
  exact⟨.returned v,w',_,hR,hs,rfl,rfl,hd,rfl,fn,hf,hr⟩
 | panic chain=>
  obtain⟨hd,hR⟩:=hq
  obtain⟨todo,hs⟩:=harr
  exact⟨.panicked chain,w',_,hR,hs,rfl,rfl,hd,fn,hf⟩
 | exit id=>exact hq.elim
 | goto l=>exact hq.elim
 | outgrown=>exact⟨.outgrown,w',b,hq,harr.resolve_left (by simp [b]),rfl,trivial⟩
theorem Tch.setChan{F:Nat->Prop}{w w':World}(h:Tch F w w')(c cap:Nat)(buf:Array Value)(cl:Bool)(s r:Nat)(tm:Bool)(hc:F c∨w.heap.size<=c):Tch F w (w'.setChan c cap buf cl s r tm):=
 ⟨h.os,h.tape,h.output,by rw [Go.Conc.size_setChan];exact h.size,fun k hk hn=>by
  have:k ≠ c:=by rintro rfl;rcases hc with hc | hc;exact hn hc;omega
  rw [←h.block k hk hn]
  simp only [World.setChan]
  rw [Array.getElem?_setIfInBounds_ne (by omega)]⟩
end Go.Proofs.YtfmcngncaffloaaGreatDoor
namespace Go.Proofs
open Go.Shelf
def Tryz.laysM171_ren:Go.Shelf.Ren:=⟨fun | 171=>182 | 243=>205 | 246=>215 | 283=>216 | 284=>217 | 285=>218 | 286=>219 | 129=>221 | 317=>220 | 318=>222 | 319=>223 | 320=>224 | 337=>225 | 338=>226 | n=>n,fun | 3=>3 | 9=>9 | 2=>2 | 4=>4 | 171=>295 | 0=>0 | 53=>296 | 37=>170 | 5=>5 | 173=>299 | 212=>302 | 51=>273 | 20=>20 | 213=>303 | 46=>265 | 232=>306 | 233=>307 | n=>n,fun | 17=>8 | 18=>9 | 19=>10 | n=>n⟩
theorem Tryz.laysM171:Go.Proofs.LaysM.n171 Tryz.prog Tryz.laysM171_ren:={
 mixed:=by kernel_rfl
 f129:=Tryz.func221.trans (congrArg some (by kernel_rfl))
 f171:=Tryz.func182.trans (congrArg some (by kernel_rfl))
 f243:=Tryz.func205.trans (congrArg some (by kernel_rfl))
 f246:=Tryz.func215.trans (congrArg some (by kernel_rfl))
 f283:=Tryz.func216.trans (congrArg some (by kernel_rfl))
 f284:=Tryz.func217.trans (congrArg some (by kernel_rfl))
 f285:=Tryz.func218.trans (congrArg some (by kernel_rfl))
 f286:=Tryz.func219.trans (congrArg some (by kernel_rfl))
 f317:=Tryz.func220.trans (congrArg some (by kernel_rfl))
 f318:=Tryz.func222.trans (congrArg some (by kernel_rfl))
 f319:=Tryz.func223.trans (congrArg some (by kernel_rfl))
 f320:=Tryz.func224.trans (congrArg some (by kernel_rfl))
 f337:=Tryz.func225.trans (congrArg some (by kernel_rfl))
 f338:=Tryz.func226.trans (congrArg some (by kernel_rfl))
 t0:=Tryz.underlying0
 a0:=Tryz.isAgg0
 z0:=Tryz.sizeOf0
 v0:=Tryz.zeroValue0
 t2:=Tryz.underlying2
 a2:=Tryz.isAgg2
 z2:=Tryz.sizeOf2
 v2:=Tryz.zeroValue2
 t3:=Tryz.underlying3
 a3:=Tryz.isAgg3
 z3:=Tryz.sizeOf3
 v3:=Tryz.zeroValue3
 t4:=Tryz.underlying4
 a4:=Tryz.isAgg4
 z4:=Tryz.sizeOf4
 v4:=Tryz.zeroValue4
 t5:=Tryz.underlying5
 a5:=Tryz.isAgg5
 z5:=Tryz.sizeOf5
 v5:=Tryz.zeroValue5
 t9:=Tryz.underlying9
 a9:=Tryz.isAgg9
 z9:=Tryz.sizeOf9
 v9:=Tryz.zeroValue9
 t20:=Tryz.underlying20
 a20:=Tryz.isAgg20
 z20:=Tryz.sizeOf20
 v20:=Tryz.zeroValue20
 t37:=Tryz.underlying170
 a37:=Tryz.isAgg170
 z37:=Tryz.sizeOf170
 v37:=Tryz.zeroValue170
 t46:=Tryz.underlying265
 a46:=Tryz.isAgg265
 z46:=Tryz.sizeOf265
 v46:=Tryz.zeroValue265
 t51:=Tryz.underlying273
 a51:=Tryz.isAgg273
 z51:=Tryz.sizeOf273
 v51:=Tryz.zeroValue273
 t53:=Tryz.underlying296
 a53:=Tryz.isAgg296
 z53:=Tryz.sizeOf296
 v53:=Tryz.zeroValue296
 t171:=Tryz.underlying295
 a171:=Tryz.isAgg295
 z171:=Tryz.sizeOf295
 v171:=Tryz.zeroValue295
 t173:=Tryz.underlying299
 a173:=Tryz.isAgg299
 z173:=Tryz.sizeOf299
 v173:=Tryz.zeroValue299
 t212:=Tryz.underlying302
 a212:=Tryz.isAgg302
 z212:=Tryz.sizeOf302
 v212:=Tryz.zeroValue302
 t213:=Tryz.underlying303
 a213:=Tryz.isAgg303
 z213:=Tryz.sizeOf303
 t232:=Tryz.underlying306
 a232:=Tryz.isAgg306
 z232:=Tryz.sizeOf306
 v232:=Tryz.zeroValue306
 t233:=Tryz.underlying307
 a233:=Tryz.isAgg307
 z233:=Tryz.sizeOf307
 v233:=Tryz.zeroValue307
 g17:=by kernel_rfl
 g18:=by kernel_rfl
 g19:=by kernel_rfl
 i0:=by kernel_rfl
 i2:=by kernel_rfl
 i3:=by kernel_rfl
 i4:=by kernel_rfl
 i5:=by kernel_rfl
 i9:=by kernel_rfl
 i20:=by kernel_rfl
 i37:=by kernel_rfl
 i46:=by kernel_rfl
 i51:=by kernel_rfl
 i53:=by kernel_rfl
 i171:=by kernel_rfl
 i173:=by kernel_rfl
 i212:=by kernel_rfl
 i232:=by kernel_rfl
 i233:=by kernel_rfl
 m17:=by kernel_rfl
 m18:=by kernel_rfl
 m19:=by kernel_rfl}
open Go.RowKit Go.Sort Go.Lib in
theorem Tryz.strconv_Itoa (n : Int) (h0 : -9223372036854775808 <= n) (h1 : n <= 9223372036854775807) (w : World) (htab : Lib.TabIs Tryz.prog w "internal/strconv.uint64pow10" .u64 Lib.pow10Tab) :
  Calls Tryz.prog 182 #[.int .i64 n] w fun e w'=>e= .returned (.string ⟨(Lib.itoa n).toArray⟩)∧∃k os,w'=grow (w.drewN k) os:=Any.strconv_Itoa Tryz.laysM171 n h0 h1 w htab
end Go.Proofs
namespace Go.Proofs.YtfmcngncaffloaaGreatDoor
open Go.RowKit
set_option maxRecDepth 100000
def Pw(w:World):Prop:=∃t fr,w.heap[8]?=some (.cells (Lib.pow10Tab.map fun z=>Value.int .u64 z).toArray t fr)
theorem Pw.kept{w w':World}(h:Pw w)(hb:Below w.heap.size w w'):Pw w':=by
 obtain⟨t,fr,e⟩:=h
 exact⟨t,fr,(hb.block _ (ziy e)).trans e⟩
def zay:Prop:=∀(n:Nat) (w:World),n<150->Pw w->
 Calls Tryz.prog 182 #[I n] w fun e w'=>(∃s:ByteArray,s.size<=64∧e= .returned (.string s))∧Below w.heap.size w w'
theorem zrg(w:World)(k:Nat)(os:Array Obj):Below w.heap.size w (Go.Sort.grow (w.drewN k) os):=
 ⟨rfl,rfl,rfl,by simp [Go.Sort.grow],fun j hj=>by simp [Go.Sort.grow,Array.getElem?_append,hj]⟩
theorem zp2(n:Nat)(h:n<150):(Lib.itoa (n:Int)).length<=64:=by
 have:∀k:Fin 150,(Lib.itoa ((k.val:Nat):Int)).length<=64:=by decide+kernel
 exact this ⟨n,h⟩
theorem zt2:zay:=by
 intro n w hn hp
 obtain⟨t,fr,e⟩:=hp
 refine(Tryz.strconv_Itoa n (by omega) (by omega) w ?_).mono ?_
 ·unfold Lib.TabIs World.var?
  rw [show Tryz.prog.globalNamed _=some 8 by kernel_rfl]
  simp [e]
 ·rintro e w' ⟨rfl,k,os,rfl⟩
  exact⟨⟨_,by show(Lib.itoa (n:Int)).toArray.size<=64;simpa using zp2 n hn,rfl⟩,zrg w k os⟩
def zfw(eb:Addr)(v:Value):Prop:=∃s,v=Flt s (Sent eb)
def zye(eb:Addr)(v:Value):Prop:=(∃s,v=Flt s (Sent eb))∨∃s t,v=Flt s (Flt t (Sent eb))
def zgr(ok:Bool)(eb:Addr)(e:Ending):Prop:=if ok then e= .returned .nilIface else∃v,e= .returned v∧zye eb v
def zb9(ok:Bool)(eb:Addr)(e:Ending):Prop:=if ok then e= .returned .nilIface else∃v,e= .returned v∧zfw eb v
theorem zbl{ok:Bool}{eb:Addr}{s:ByteArray}(h:ok=false):zb9 ok eb (.returned (Flt s (Sent eb))):=by
 rw [h];exact⟨_,rfl,⟨_,rfl⟩⟩
theorem zdo{ok:Bool}{eb:Addr}(h:ok=true):zb9 ok eb (.returned .nilIface):=by
 rw [h];rfl
def zzp(w:World)(p q:Nat)(ms:List Em):Prop:=∀k (hk:k<ms.length),w.cell? ⟨p,q+k*7,none⟩=some (I ms[k].e.op)∧w.cell? ⟨p,q+k*7+1,none⟩=some (I ms[k].e.ob)∧w.cell? ⟨p,q+k*7+2,none⟩=some (I ms[k].e.va)∧
   w.cell? ⟨p,q+k*7+3,none⟩=some (I ms[k].e.ref.o)∧w.cell? ⟨p,q+k*7+4,none⟩=some (I ms[k].e.ref.s)∧w.cell? ⟨p,q+k*7+5,none⟩=some (I ms[k].e.ref.i)∧
   w.cell? ⟨p,q+k*7+6,none⟩=some (.slice ms[k].da ms[k].e.dots.length ms[k].dc)
theorem zhz{P:Program}(w:World)(t ty:TypeId)(base:Nat)(e:TypeId)(i:TypeInfo)(z:Value)(size bytes:Nat)(ht:P.underlying t=some (.slice e))(hi:P.info? e=some i)(hz:i.zero=some z)
  (hsize:i.size=size) (hby:i.bytes=bytes) (hzs:z.cells.size=size) (hsz:0<size)
  (v:Value) (n:Nat) (xs:List Value) (hown:w.ownsRow base e size v n xs)
  (ad:Addr) (m c:Nat) (news:List Value) (hl:news.length=m*size) (hnews:∀j u,news[j]?=some u->w.cell? (ad.add j)=some u) (h1:∀u∈news,u.oneCell'=true)
  (h63:n+m<=maxLen) (hbytes:(n+m)*bytes<=140737488355328) (v':Value) (w':World) (hrun:(Builtin.append_ #[t,t] ty #[v, .slice (some ad) m c]).run P w= .ok v' w'):
  ∀b j,v.ownBlock=some b->j<n*size->w'.cell? ⟨b,j,none⟩=w.cell? ⟨b,j,none⟩:=by
 intro b j hb hj
 rcases hown.2 with⟨rfl,_⟩ | ⟨g,cap,cur,rfl,_,hg,hnc,_,hcs,htk⟩
 ·cases hb
 ·obtain rfl:g=b:=by simpa [Value.ownBlock] using hb
  by_cases hroom:n+m<=cap
  ·have hlt:∀k,k<news.length->n*size+k<cur.size:=by
    intro k hk
    rw [hcs]
    have:(n+m)*size<=cap*size:=Nat.mul_le_mul_right _ hroom
    rw [Nat.add_mul] at this
    omega
   have hr:=run_append_room_cells (P:=P) w t ty e i ht hi g 0 n cap ad m c news (by rw [hl,hsize]) hnews h1 hroom
    (fun k hk=>by rw [hsize,cell_of_row w g _ cur e (0,0) hg,Nat.zero_add,Array.getElem?_eq_getElem (hlt k hk)];rfl)
    (fun k _=>frozen_of_row w g _ cur e hg)
   rw [hr] at hrun
   cases hrun
   refine World.cell?_setCells_out g news (0+n*i.size) w ⟨g,j,none⟩ (fun _ _=>Or.inl ?_)
   rw [hsize]
   show j<0+n*size
   omega
  ·obtain⟨v2,w2,hr,_,hg2⟩:=run_append_arg_grows (P:=P) w t ty e i z size bytes ht hi hz hsize hby hzs hsz ⟨g,0,none⟩ n cap xs hown.1 (fun k u hu=>by
    rw [Addr.add_lit,Nat.zero_add,cell_of_row w g k cur e (0,0) hg]
    rw [←htk] at hu
    have hk:k<n*size:=by have:=(List.getElem?_eq_some_iff.1 hu).1;simp at this;omega
    rw [List.getElem?_take_of_lt hk] at hu
    simpa using hu) ad m c news hl hnews (by omega) h63 hbytes
   rw [hr] at hrun
   cases hrun
   have hlt:g<w.heap.size:=(Array.getElem?_eq_some_iff.1 hg).1
   exact World.cell?_of_block (a:=⟨g,j,none⟩) (hg2.block g hlt (by simp))
theorem zia{P:Program}(w:World){o:Oper}{a:Act}{K:Act->World->Prop}{Q:Exit->Act->World->Prop}(s x:Operand)(t:TypeId)
  (ho:o.op= .call {callee:= .builtin .append,args:= #[s,x],argTypes:= #[t,t]})
  (base:Nat) (e:TypeId) (i:TypeInfo) (z:Value) (size bytes:Nat) (ht:P.underlying t=some (.slice e)) (hi:P.info? e=some i) (hz:i.zero=some z)
  (hsize:i.size=size) (hby:i.bytes=bytes) (hzs:z.cells.size=size) (hsz:0<size)
  (v:Value) (n:Nat) (xs:List Value) (hs:a.eval s=v) (hown:w.ownsRow base e size v n xs)
  (ad:Addr) (m c:Nat) (news:List Value) (hx:a.eval x= .slice (some ad) m c) (hl:news.length=m*size) (hnews:∀j u,news[j]?=some u->w.cell? (ad.add j)=some u) (h1:∀u∈news,u.oneCell'=true)
  (hm:0<m) (h63:n+m<=maxLen) (hbytes:(n+m)*bytes<=140737488355328) (hbase:base<=w.heap.size) (H:Nat) (hH:w.heap.size=H)
  (h:∀g cap w',w'.ownsRow base e size (.slice (some ⟨g,0,none⟩) (n+m) cap) (n+m) (xs++news)->w.grownBy w' v.ownBlock->(v.ownBlock=some g∨g=H)->(∀b j,v.ownBlock=some b->j<n*size->w'.cell? ⟨b,j,none⟩=w.cell? ⟨b,j,none⟩)->K (a.put o.dst (.slice (some ⟨g,0,none⟩) (n+m) cap)) w'):o.wp P a w K Q:=by
 obtain⟨g,cap,w',hr,h2,h3,h4,h5⟩:=run_append_lies (P:=P) w t o.type base e i z size bytes ht hi hz hsize hby hzs hsz v n xs hown ad m c news hl hnews h1 hm h63 hbytes hbase H hH
 have h6:=zhz (P:=P) w t o.type base e i z size bytes ht hi hz hsize hby hzs hsz v n xs hown ad m c news hl hnews h1 h63 hbytes _ _ hr
 unfold Oper.wp execOp
 simp only [ho,resolve,invoke,builtin,Sem.run_bind,Sem.run_pure,Result.andThen_ok,List.map_toArray,List.map_cons,List.map_nil,hs,hx,hr]
 exact h g cap w' h2 h3 h4 h6
theorem zf3{P:Program}{w:World}{ops:Array Oper}{rest:List Oper}{o:Oper}{a:Act}{Q:Exit->Act->World->Prop}(hgd:o.guard=none)(s x:Operand)(t:TypeId)
  (ho:o.op= .call {callee:= .builtin .append,args:= #[s,x],argTypes:= #[t,t]})
  (base:Nat) (e:TypeId) (i:TypeInfo) (z:Value) (size bytes:Nat) (ht:P.underlying t=some (.slice e)) (hi:P.info? e=some i) (hz:i.zero=some z)
  (hsize:i.size=size) (hby:i.bytes=bytes) (hzs:z.cells.size=size) (hsz:0<size)
  (v:Value) (n:Nat) (xs:List Value) (hs:a.eval s=v) (hown:w.ownsRow base e size v n xs)
  (ad:Addr) (m c:Nat) (news:List Value) (hx:a.eval x= .slice (some ad) m c) (hl:news.length=m*size) (hnews:∀j u,news[j]?=some u->w.cell? (ad.add j)=some u) (h1:∀u∈news,u.oneCell'=true)
  (hm:0<m) (h63:n+m<=maxLen) (hbytes:(n+m)*bytes<=140737488355328) (hbase:base<=w.heap.size) (H:Nat) (hH:w.heap.size=H)
  (h:∀g cap w',w'.ownsRow base e size (.slice (some ⟨g,0,none⟩) (n+m) cap) (n+m) (xs++news)->w.grownBy w' v.ownBlock->(v.ownBlock=some g∨g=H)->(∀b j,v.ownBlock=some b->j<n*size->w'.cell? ⟨b,j,none⟩=w.cell? ⟨b,j,none⟩)->wpList P ops Q rest (a.put o.dst (.slice (some ⟨g,0,none⟩) (n+m) cap)) w'):wpList P ops Q (o::rest) a w:=
 wpList_plain hgd fun _ hK=>zia w s x t ho base e i z size bytes ht hi hz hsize hby hzs hsz v n xs hs hown ad m c news hx hl hnews h1 hm h63 hbytes hbase H hH fun g cap w' h2 h3 h4 h5=>hK _ _ (h g cap w' h2 h3 h4 h5)
structure Sl where
 a:Option Addr
 n:Nat
 c:Nat
end Go.Proofs.YtfmcngncaffloaaGreatDoor
