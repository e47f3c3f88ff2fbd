import Derived.Test.YtfmcngncaffloaaGreatDoorG22RpP
set_option maxHeartbeats 800000
namespace Go.Proofs.YtfmcngncaffloaaGreatDoor
open Go.RowKit
set_option maxRecDepth 100000
theorem Env.below{w0 w w':World}{own:Clr}{eb ef:Addr}(h:Env w0 w own eb ef)(hB:Below w.heap.size w w'):Gl w' eb ef:=h.gl.kept (h.bel.trans (hB.mono h.bel.size))
theorem zxx(own:Clr)(c p:Nat)(R:Rp)(cg cc hp:Nat)(mv hv ev:Value)(hs:List Bm)(es:List Em)(op x y:Int)(k:Nat)(o:Ob)(w w0:World)(eb ef:Addr)(hen:Env w0 w own eb ef)(h:RpIn w own c p R cg cc hp mv hv ev hs es)(h1:R.st=1)(hop:¬(1<=op∧op<=6))
  (hk:R.obs[k]?=some o) (hobs:R.obs.length=8)
  (hl:R.clock.length<=1000) (hn0:0<=R.n) (hn1:R.n<R.clock.length) (hs0:∀z∈R.clock,0<=z∧z<=1000000) (ht0:0<=R.time) (ht1:R.time<=1000000000)
  (N:Nat) (hN:N+R.effs.length<=100000) (hbd:o.bound N) (hval:∀e∈R.effs, -1000<=e.va∧e.va<=1000∧e.dots.length<=1048576):
  Calls Tryz.prog 43 #[.pointer (some ⟨p,0,none⟩),I op,I k,I x,I y] w fun e w'=>e= .returned (I 9)∧Below w.heap.size w w':=by
 have c1:w.cell? ⟨p,1,none⟩=some (I R.st):=h.blk.cell 1
 have hb:(R.st==1)=true:=by simp [h1]
 have HC:Hid (Calls Tryz.prog 66 #[.pointer (some ⟨p,0,none⟩),I k] w fun e w'=>SeeOk own (seeTo (pendB R) k o R.effs.length) w e w'):=zep own c p R cg cc hp mv hv ev hs es k o w h hk hobs hl hn0 hn1 hs0 ht0 ht1 N hN hbd hval
 have HEN:Hid (Env w0 w own eb ef):=hen
 have HOP:Hid (¬(1<=op∧op<=6)):=hop
 clear h h1 hen hk hobs hl hn0 hn1 hs0 ht0 ht1 hN hbd hval hop
 go_enter Tryz.func43,Tryz.ntmps43
 go_wp2_with fail
 refine HC.out.mono ?_
 rintro e w1 ⟨v,d,own',rfl,hE,hO,hB⟩
 have HB:Hid (Below w.heap.size w w1):=hB
 obtain⟨tw,pw,hvf⟩:=ObAt.face hO
 subst hvf
 clear hE hO hB HC
 go_wp2_with fail
 refine(zki op w1 eb ef (HEN.out.below HB.out) HOP.out).mono ?_
 rintro e w2 ⟨⟨s,rfl⟩,hB2⟩
 have HB2:Hid (Below w.heap.size w w2):=HB.out.trans (hB2.mono HB.out.size)
 clear hB2
 go_wp2_with fail
 go_quiet (fail)
 go_wp2
 go_ret
 exact⟨rfl,zal (HB2.out.alloc HB2.out.size _) _⟩
theorem zq4(own:Clr)(c p:Nat)(R:Rp)(cg cc hp:Nat)(mv hv ev:Value)(hs:List Bm)(es:List Em)(op x y:Int)(k:Nat)(o:Ob)(w w0:World)(eb ef:Addr)(hen:Env w0 w own eb ef)(h:RpIn w own c p R cg cc hp mv hv ev hs es)(h1:R.st=1)(hop:1<=op∧op<=6)(hkd:(k:Int) % 4 ≠ Wv.rKind op)
  (hk:R.obs[k]?=some o) (hobs:R.obs.length=8)
  (hl:R.clock.length<=1000) (hn0:0<=R.n) (hn1:R.n<R.clock.length) (hs0:∀z∈R.clock,0<=z∧z<=1000000) (ht0:0<=R.time) (ht1:R.time<=1000000000)
  (N:Nat) (hN:N+R.effs.length<=100000) (hbd:o.bound N) (hval:∀e∈R.effs, -1000<=e.va∧e.va<=1000∧e.dots.length<=1048576):
  Calls Tryz.prog 43 #[.pointer (some ⟨p,0,none⟩),I op,I k,I x,I y] w fun e w'=>e= .returned (I 9)∧Below w.heap.size w w':=by
 have c1:w.cell? ⟨p,1,none⟩=some (I R.st):=h.blk.cell 1
 have hb:(R.st==1)=true:=by simp [h1]
 have HC:Hid (Calls Tryz.prog 66 #[.pointer (some ⟨p,0,none⟩),I k] w fun e w'=>SeeOk own (seeTo (pendB R) k o R.effs.length) w e w'):=zep own c p R cg cc hp mv hv ev hs es k o w h hk hobs hl hn0 hn1 hs0 ht0 ht1 N hN hbd hval
 have HEN:Hid (Env w0 w own eb ef):=hen
 have HOP:Hid (1<=op∧op<=6):=hop
 have hA1:(0:Int)<=k:=by omega
 have hA2:(k:Int)<=7:=by
  obtain⟨h,_⟩:=List.getElem?_eq_some_iff.1 hk
  omega
 have hB:(Wv.rKind op !=(k:Int) % 4)=true:=by simpa using fun e=>hkd e.symm
 clear h h1 hen hk hobs hl hn0 hn1 hs0 ht0 ht1 hN hbd hval hop hkd
 go_enter Tryz.func43,Tryz.ntmps43
 go_wp2_with fail
 refine HC.out.mono ?_
 rintro e w1 ⟨v,d,own',rfl,hE,hO,hB⟩
 have HB:Hid (Below w.heap.size w w1):=hB
 obtain⟨tw,pw,hvf⟩:=ObAt.face hO
 subst hvf
 clear hE hO hB HC
 go_wp2_with fail
 refine(zbq op w1 eb ef (HEN.out.below HB.out) HOP.out).mono ?_
 rintro e w2 ⟨rfl,hB2⟩
 unfold ruleV
 have HB2:Hid (Below w.heap.size w w2):=HB.out.trans (hB2.mono HB.out.size)
 clear hB2
 go_wp2_with fail
 go_quiet (first | (go_at_call 64;exact Calls.quiet_of_same (zb5 _ hA1 hA2 _)))
 go_wp2
 go_ret
 exact⟨rfl,zal (HB2.out.alloc HB2.out.size _) _⟩
theorem AddOk.from{w w5 w6:World}{own:Clr}{c p:Nat}{R:Rp}{cg cc hp:Nat}{mv hv:Value}{hs:List Bm}{es:List Em}(hB:Below w.heap.size w w5)(h:AddOk w5 (newTo own w.heap.size 0) c p R cg cc hp mv hv hs es w6):AddOk w own c p R cg cc hp mv hv hs es w6:=by
 obtain⟨own',ev',hE,hR,hT⟩:=h
 refine⟨own',ev',(zaf own w.heap.size 0).trans hE hB.size,hR,(Tch.below hB).trans hT (fun _ _ h=>h) (fun k hk h=> ?_)⟩
 rw [zac _ _ _ _ hk] at h
 exact h
end Go.Proofs.YtfmcngncaffloaaGreatDoor
