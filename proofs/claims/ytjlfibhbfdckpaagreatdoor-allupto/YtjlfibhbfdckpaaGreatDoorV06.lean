import Derived.Test.YtjlfibhbfdckpaaGreatDoorV04
namespace Go.Proofs.YtjlfibhbfdckpaaGreatDoor
set_option maxHeartbeats 64000000
set_option maxRecDepth 100000
section
open Wd (wd)
structure Rs where
 W:Nat
 H:Nat
 x:Int
 y:Int
 pend:Bool
 pen:Pn
 top:Int
 bot:Int
 B:ByteArray
 odd:Int
 G:Nat->Nat->zk
structure Rs.Ok (s:Rs):Prop where
 w1:1<=s.W
 w2:s.W<=40
 h1:1<=s.H
 h2:s.H<=20
 x0:0<=s.x
 x1:s.x<s.W
 y0:0<=s.y
 y1:s.y<s.H
 t0:0<=s.top
 tb:s.top<=s.bot
 b1:s.bot<s.H
 pd:s.pend=true->s.x=(s.W:Int)-1
 wf:Wf s.W s.H s.G
def zap (v:Int) (m:Nat):Int:=if v<0 then 0 else if (m:Int)-1<v then(m:Int)-1 else v
theorem zbJ (v:Int) (m:Nat) (h:1<=m):0<=zap v m/\zap v m<m:=by
 unfold zap;by_cases h1:v<0
 ·rw[if_pos h1];omega
 ·rw[if_neg h1];by_cases h2:(m:Int)-1<v
  ·rw[if_pos h2];omega
  ·rw[if_neg h2];omega
def ZQ (s:Rs) (x y:Int):Rs:={s with x:=zap x s.W,y:=zap y s.H,pend:=false}
def zS (s:Rs):Pn:=⟨0,s.pen.b,false,false,false⟩
def zt (s:Rs):Rs:=if s.y=s.bot then {s with G:=zo s.top s.bot 1 (zS s) s.G,pend:=false} else ZQ s s.x (s.y+1)
abbrev zf2 (bc:Nat) (s:Rs):Array Value:=#[.pointer (some ⟨bc,0,none⟩),.int .i64 s.W,.int .i64 s.H,.int .i64 s.x,.int .i64 s.y,.bool s.pend,.int .i64 s.pen.f,.int .i64 s.pen.b,.bool s.pen.bo,.bool s.pen.un,.bool s.pen.re,.int .i64 s.top,.int .i64 s.bot,.bool false,.string s.B,.int .i64 s.odd]
structure zi (w:World) (bs bc g cap N:Nat) (s:Rs):Prop where
 blk:w.heap[bs]?=some (.cells (zf2 bc s) 104)
 cels:Zp w bc g cap s.W s.H N s.G
 ne1:bs≠bc
 ne2:bs≠g
section
variable {w w':World} {bs bc g cap N:Nat} {s:Rs}
theorem zi.lt (h:zi w bs bc g cap N s):bs<w.heap.size:=(Array.getElem?_eq_some_iff.1 h.blk).1
theorem zi.same (h:zi w bs bc g cap N s) (h1:w'.heap[bs]?=w.heap[bs]?) (h2:w'.heap[bc]?=w.heap[bc]?) (h3:w'.heap[g]?=w.heap[g]?):zi w' bs bc g cap N s:=
 ⟨by rw[h1];exact h.blk,h.cels.same h2 h3,h.ne1,h.ne2⟩
theorem zi.below (h:zi w bs bc g cap N s) (hb:Go.RowKit.Below w.heap.size w w'):zi w' bs bc g cap N s:=
 h.same (hb.block _ h.lt) (hb.block _ h.cels.lt) (hb.block _ h.cels.glt)
theorem zi.free (h:zi w bs bc g cap N s):∀o,w.frozen? ⟨bs,o,none⟩=false:=ze h.blk
theorem zi.drew (h:zi w bs bc g cap N s):zi w.drew bs bc g cap N s:=h.same rfl rfl rfl
theorem zi.store (h:zi w bs bc g cap N s) (o:Nat) (v:Value) (s':Rs) (hs:(zf2 bc s).setIfInBounds o v=zf2 bc s') (hW:s'.W=s.W) (hH:s'.H=s.H) (hG:s'.G=s.G):zi (w.setCell ⟨bs,o,none⟩ v) bs bc g cap N s':=by
 refine⟨?_,?_,h.ne1,h.ne2⟩
 ·rw[zg h.blk,hs]
 ·rw[hW,hH,hG];exact h.cels.same (Go.RowKit.Below.heap_setCell _ _ _ _ (λe=>h.ne1 e.symm)) (Go.RowKit.Below.heap_setCell _ _ _ _ (λe=>h.ne2 e.symm))
theorem zi.cells {g' cap':Nat} (h:zi w bs bc g cap N s) (s':Rs) (hb:w'.heap[bs]?=w.heap[bs]?) (hc:Zp w' bc g' cap' s'.W s'.H N s'.G) (hs:zf2 bc s'=zf2 bc s) (hg:bs≠g'):zi w' bs bc g' cap' N s' :=
 ⟨by rw[hb,hs];exact h.blk,hc,h.ne1,hg⟩
theorem zi.f0 (h:zi w bs bc g cap N s):w.cell? ⟨bs,0,none⟩=some (.pointer (some ⟨bc,0,none⟩)):=za h.blk 0
theorem zi.f1 (h:zi w bs bc g cap N s):w.cell? ⟨bs,1,none⟩=some (.int .i64 s.W):=za h.blk 1
theorem zi.f2 (h:zi w bs bc g cap N s):w.cell? ⟨bs,2,none⟩=some (.int .i64 s.H):=za h.blk 2
theorem zi.f3 (h:zi w bs bc g cap N s):w.cell? ⟨bs,3,none⟩=some (.int .i64 s.x):=za h.blk 3
theorem zi.f4 (h:zi w bs bc g cap N s):w.cell? ⟨bs,4,none⟩=some (.int .i64 s.y):=za h.blk 4
theorem zi.f5 (h:zi w bs bc g cap N s):w.cell? ⟨bs,5,none⟩=some (.bool s.pend):=za h.blk 5
theorem zi.f6 (h:zi w bs bc g cap N s):w.cell? ⟨bs,6,none⟩=some (.int .i64 s.pen.f):=za h.blk 6
theorem zi.f7 (h:zi w bs bc g cap N s):w.cell? ⟨bs,7,none⟩=some (.int .i64 s.pen.b):=za h.blk 7
theorem zi.f8 (h:zi w bs bc g cap N s):w.cell? ⟨bs,8,none⟩=some (.bool s.pen.bo):=za h.blk 8
theorem zi.f9 (h:zi w bs bc g cap N s):w.cell? ⟨bs,9,none⟩=some (.bool s.pen.un):=za h.blk 9
theorem zi.f10 (h:zi w bs bc g cap N s):w.cell? ⟨bs,10,none⟩=some (.bool s.pen.re):=za h.blk 10
theorem zi.f11 (h:zi w bs bc g cap N s):w.cell? ⟨bs,11,none⟩=some (.int .i64 s.top):=za h.blk 11
theorem zi.f12 (h:zi w bs bc g cap N s):w.cell? ⟨bs,12,none⟩=some (.int .i64 s.bot):=za h.blk 12
theorem zi.f13 (h:zi w bs bc g cap N s):w.cell? ⟨bs,13,none⟩=some (.bool false):=za h.blk 13
theorem zi.f14 (h:zi w bs bc g cap N s):w.cell? ⟨bs,14,none⟩=some (.string s.B):=za h.blk 14
theorem zi.f15 (h:zi w bs bc g cap N s):w.cell? ⟨bs,15,none⟩=some (.int .i64 s.odd):=za h.blk 15
theorem zi.setX (h:zi w bs bc g cap N s) (v:Int):zi (w.setCell ⟨bs,3,none⟩ (.int .i64 v)) bs bc g cap N {s with x:=v}:=h.store 3 _ {s with x:=v} rfl rfl rfl rfl
theorem zi.setY (h:zi w bs bc g cap N s) (v:Int):zi (w.setCell ⟨bs,4,none⟩ (.int .i64 v)) bs bc g cap N {s with y:=v}:=h.store 4 _ {s with y:=v} rfl rfl rfl rfl
theorem zi.setPend (h:zi w bs bc g cap N s) (v:Bool):zi (w.setCell ⟨bs,5,none⟩ (.bool v)) bs bc g cap N {s with pend:=v}:=h.store 5 _ {s with pend:=v} rfl rfl rfl rfl
theorem zi.setTop (h:zi w bs bc g cap N s) (v:Int):zi (w.setCell ⟨bs,11,none⟩ (.int .i64 v)) bs bc g cap N {s with top:=v}:=h.store 11 _ {s with top:=v} rfl rfl rfl rfl
theorem zi.setBot (h:zi w bs bc g cap N s) (v:Int):zi (w.setCell ⟨bs,12,none⟩ (.int .i64 v)) bs bc g cap N {s with bot:=v}:=h.store 12 _ {s with bot:=v} rfl rfl rfl rfl
theorem zi.setB (h:zi w bs bc g cap N s) (v:ByteArray):zi (w.setCell ⟨bs,14,none⟩ (.string v)) bs bc g cap N {s with B:=v}:=h.store 14 _ {s with B:=v} rfl rfl rfl rfl
theorem zi.setOdd (h:zi w bs bc g cap N s) (v:Int):zi (w.setCell ⟨bs,15,none⟩ (.int .i64 v)) bs bc g cap N {s with odd:=v}:=h.store 15 _ {s with odd:=v} rfl rfl rfl rfl
theorem zi.setXYP (h:zi w bs bc g cap N s) (a b:Int):zi (((w.setCell ⟨bs,3,none⟩ (.int .i64 a)).setCell ⟨bs,4,none⟩ (.int .i64 b)).setCell ⟨bs,5,none⟩ (.bool false)) bs bc g cap N {s with x:=a,y:=b,pend:=false} :=
 ((h.setX a).setY b).setPend false
theorem zpw (w:World) (bs:Nat) (a b c:Value):zd (λi=>i=bs) w (((w.setCell ⟨bs,3,none⟩ a).setCell ⟨bs,4,none⟩ b).setCell ⟨bs,5,none⟩ c):=
 (((zd.refl (λi=>i=bs) w).setCell ⟨bs,3,none⟩ a (λ_=>rfl)).setCell ⟨bs,4,none⟩ b (λ_=>rfl)).setCell ⟨bs,5,none⟩ c (λ_=>rfl)
theorem zi.drewN (h:zi w bs bc g cap N s) (n:Nat):zi (w.drewN n) bs bc g cap N s:=h.same rfl rfl rfl
end
def zac (bs bc g:Nat) (w:World) (s:Rs) (r:Value) (e:Ending) (w':World):Prop:=
 ∃g' cap' N',e=.returned r/\zi w' bs bc g' cap' N' s/\zd (λi=>i=bs\/i=bc\/i=g) w w'/\(g'=g\/w.heap.size<=g')
theorem Z5 {bs bc g g' cap' N':Nat} {w w':World} {s:Rs} {r:Value} (h:zi w' bs bc g' cap' N' s) (k:zd (λi=>i=bs\/i=bc\/i=g) w w') (hg:g'=g\/w.heap.size<=g'):zac bs bc g w s r (.returned r) w':=⟨g',cap',N',rfl,h,k,hg⟩
def zeq (W:Nat) (r:Int):Int:=if wd r=2/\W=1 then 32 else r
def ze1 (W:Nat) (r:Int):Int:=if wd r=2/\W=1 then 1 else wd r
def zb8 (s:Rs) (k:Int):Bool:=s.pend||(decide (k=2)&&decide (s.x=(s.W:Int)-1))
def zaa (s:Rs) (k:Int):Rs:=if zb8 s k=true then zt {s with x:=0} else s
def za8 (s:Rs) (r:Int):Rs:={s with G:=zR s.W s.H s.G s.x s.y r s.pen}
def zcr (s:Rs) (k:Int):Rs:=if (s.W:Int)<=s.x+k then {s with x:=(s.W:Int)-1,pend:=true} else {s with x:=s.x+k}
def zba (s:Rs) (r:Int):Rs:=
 if wd r=0 then {s with odd:=Go.RowKit.wrap64 (s.odd+1)} else zcr (za8 (zaa s (ze1 s.W r)) (zeq s.W r)) (ze1 s.W r)
theorem zpx {s:Rs} (h:s.Ok):Rs.Ok { ({s with x:=0}:Rs) with pend:=false}:=⟨h.w1,h.w2,h.h1,h.h2,Int.le_refl 0,by have:=h.w1;show(0:Int)<s.W;omega,h.y0,h.y1,h.t0,h.tb,h.b1,(λq=>by cases q),h.wf⟩
theorem Rs.Ok.goes {s:Rs} (h:s.Ok) (x y:Int):(ZQ s x y).Ok:=by
 have a:=zbJ x s.W h.w1;have b:=zbJ y s.H h.h1;exact⟨h.w1,h.w2,h.h1,h.h2,a.1,a.2,b.1,b.2,h.t0,h.tb,h.b1,(λq=>by cases q),h.wf⟩
theorem zf3 {s:Rs} (h:s.Ok) (n:Int) (p:Pn):Rs.Ok {s with G:=zo s.top s.bot n p s.G} :=
 ⟨h.w1,h.w2,h.h1,h.h2,h.x0,h.x1,h.y0,h.y1,h.t0,h.tb,h.b1,h.pd,h.wf.scroll _ _ _ _ h.t0 h.b1⟩
theorem zjw {s:Rs} (h:s.Ok):Rs.Ok {s with pend:=false} :=
 ⟨h.w1,h.w2,h.h1,h.h2,h.x0,h.x1,h.y0,h.y1,h.t0,h.tb,h.b1,(λq=>by cases q),h.wf⟩
theorem zpy {s:Rs} (h:s.Ok):(zt {s with x:=0}).Ok:=by
 have hx:(0:Int)<s.W:=by have:=h.w1;omega
 unfold zt;split
 ·exact⟨h.w1,h.w2,h.h1,h.h2,Int.le_refl 0,hx,h.y0,h.y1,h.t0,h.tb,h.b1,(λq=>by cases q),h.wf.scroll _ _ _ _ h.t0 h.b1⟩
 ·have a:=zbJ 0 s.W h.w1;have b:=zbJ (s.y+1) s.H h.h1;exact⟨h.w1,h.w2,h.h1,h.h2,a.1,a.2,b.1,b.2,h.t0,h.tb,h.b1,(λq=>by cases q),h.wf⟩
theorem Rs.Ok.lf {s:Rs} (h:s.Ok):(zt s).Ok:=by
 unfold zt;split
 ·exact zjw (zf3 h 1 (zS s))
 ·exact h.goes _ _
theorem Rs.Ok.broken {s:Rs} (h:s.Ok) (k:Int):(zaa s k).Ok:=by
 unfold zaa;split
 ·exact zpy h
 ·exact h
end
section
def zdb (p:Pn) (n:Int):Pn:=
 if n=0 then Pn.plain else if n=1 then {p with bo:=true} else if n=22 then {p with bo:=false}
 else if n=4 then {p with un:=true} else if n=24 then {p with un:=false}
 else if n=7 then {p with re:=true} else if n=27 then {p with re:=false}
 else if n=39 then {p with f:=0} else if n=49 then {p with b:=0}
 else if 30<=n/\n<=37 then {p with f:=n-29} else if 40<=n/\n<=47 then {p with b:=n-39} else p
def zek (s:Rs) (n:Int):Rs:={s with pen:=zdb s.pen n}
theorem zi.setPen {w:World} {bs bc g cap N:Nat} {s:Rs} (h:zi w bs bc g cap N s) (n:Pn):zi (((((w.setCell ⟨bs,6,none⟩ (.int .i64 n.f)).setCell ⟨bs,7,none⟩ (.int .i64 n.b)).setCell ⟨bs,8,none⟩ (.bool n.bo)).setCell ⟨bs,9,none⟩ (.bool n.un)).setCell ⟨bs,10,none⟩ (.bool n.re)) bs bc g cap N {s with pen:=n} :=
 ((((h.store 6 _ {s with pen:={s.pen with f:=n.f} } rfl rfl rfl rfl).store 7 _ {s with pen:={s.pen with f:=n.f,b:=n.b} } rfl rfl rfl rfl).store 8 _ {s with pen:={s.pen with f:=n.f,b:=n.b,bo:=n.bo} } rfl rfl rfl rfl).store 9 _ {s with pen:={s.pen with f:=n.f,b:=n.b,bo:=n.bo,un:=n.un} } rfl rfl rfl rfl).store 10 _ {s with pen:=n} rfl rfl rfl rfl
theorem zpz {F:Nat->Prop} {w w':World} (h:zd F w w') (bs:Nat) (hF:F bs) (a b c d e:Value):zd F w (((((w'.setCell ⟨bs,6,none⟩ a).setCell ⟨bs,7,none⟩ b).setCell ⟨bs,8,none⟩ c).setCell ⟨bs,9,none⟩ d).setCell ⟨bs,10,none⟩ e):=
 ((((h.setCell ⟨bs,6,none⟩ a (λ_=>hF)).setCell ⟨bs,7,none⟩ b (λ_=>hF)).setCell ⟨bs,8,none⟩ c (λ_=>hF)).setCell ⟨bs,9,none⟩ d (λ_=>hF)).setCell ⟨bs,10,none⟩ e (λ_=>hF)
theorem zaN {w:World} {bs bc g cap N:Nat} {s:Rs} (h:zi w bs bc g cap N s) (n:Int) (pp:Pn) (hp:zdb s.pen n=pp) (arr:Array Value) (t:TypeId):
 zac bs bc g w (zek s n) (.tuple #[]) (.returned (.tuple #[])) ((((((w.setCell ⟨bs,6,none⟩ (.int .i64 pp.f)).setCell ⟨bs,7,none⟩ (.int .i64 pp.b)).setCell ⟨bs,8,none⟩ (.bool pp.bo)).setCell ⟨bs,9,none⟩ (.bool pp.un)).setCell ⟨bs,10,none⟩ (.bool pp.re)).alloc (.cells arr t)):=by
 have e:zek s n={s with pen:=pp}:=by unfold zek;rw[hp]
 rw[e];exact Z5 ((h.setPen pp).below ((Go.RowKit.Below.refl _ _).alloc (Nat.le_refl _) _)) ((zpz (zd.refl _ w) bs (.inl rfl) _ _ _ _ _).alloc _) (.inl rfl)
end
section
open Wd (wd)
def zct (how:Int) (all:Bool) (X Y:Int):Nat->Nat->Bool:=λa b=>
 (decide (how=2)||(decide (how=0)&&(decide (Y<b)||(decide ((b:Int)=Y)&&decide (X<=a))))||(decide (how=1)&&(decide ((b:Int)<Y)||(decide ((b:Int)=Y)&&decide ((a:Int)<=X)))))&&(all||decide ((b:Int)=Y))
def zbw (s:Rs) (how:Int) (all:Bool) (m:Nat):Nat->Nat->zk:=wrt s.G (λa b=>zct how all s.x s.y a b&&decide (b*s.W+a<m)) (λ_ _=>blk (zS s))
def zbS (s:Rs) (how:Int) (all:Bool):Rs:={s with G:=wrt s.G (zct how all s.x s.y) (λ_ _=>blk (zS s))}
theorem ztW {s:Rs} (hwf:Wf s.W s.H s.G) (how:Int) (all:Bool) {x y:Nat} (hx:x<s.W) (h:zct how all s.x s.y x y=false):ZX s.W s.H (zbw s how all (y*s.W+x)) (zbw s how all (y*s.W+x+1)):=by
 unfold zbw;refine zbm hwf (λa b ha hb=>?_) (λ_ _ _ _ _=>rfl);by_cases e:b*s.W+a=y*s.W+x
 ·obtain⟨rfl,rfl⟩:=zcb ha hx e;rw[h];rfl
 ·rw[Bool.eq_iff_iff];simp;intro _;omega
theorem zrP {s:Rs} (hwf:Wf s.W s.H s.G) (how:Int) (all:Bool) {x y:Nat} (hx:x<s.W) (h:zct how all s.x s.y x y=true):ZX s.W s.H (wrt (zbw s how all (y*s.W+x)) (pt x y) (λ_ _=>blk (zS s))) (zbw s how all (y*s.W+x+1)):=by
 unfold zbw;rw[zm6 _ _ _ _ _ (λ_ _ _ _=>rfl)];refine zbm hwf (λa b ha hb=>?_) (λa b _ _ _=>by simp);by_cases e:a=x/\b=y
 ·obtain⟨rfl,rfl⟩:=e;simp[h,pt]
 ·have e':b*s.W+a≠y*s.W+x:=λq=>e (zcb ha hx q);have hp:pt x y a b=false:=by
   cases hq:pt x y a b with
   |false=>rfl
   |true=>exact absurd (zcR.1 hq) e
  rw[hp,Bool.or_false,Bool.eq_iff_iff];simp;intro _;omega
theorem zrQ {s:Rs} (hwf:Wf s.W s.H s.G) (how:Int) (all:Bool):ZX s.W s.H (zbw s how all (s.H*s.W)) (zbS s how all).G:=by
 unfold zbw zbS;refine zbm hwf (λa b ha hb=>?_) (λ_ _ _ _ _=>rfl);have:=zas ha hb;simp[this]
theorem zpA (s:Rs) (how:Int) (all:Bool):zbw s how all 0=s.G:=by
 unfold zbw;exact zg2 _ _ _ (λa b=>by simp)
theorem ztX {s:Rs} (hwf:Wf s.W s.H s.G) (how:Int) (all:Bool) (m:Nat):Wf s.W s.H (zbw s how all m):=hwf.blk _ _
theorem Rs.Ok.era {s:Rs} (h:s.Ok) (how:Int) (all:Bool):(zbS s how all).Ok:=⟨h.w1,h.w2,h.h1,h.h2,h.x0,h.x1,h.y0,h.y1,h.t0,h.tb,h.b1,h.pd,h.wf.blk _ _⟩
def ZC (x y:Int):Bool:=Wd.inB x 1 40&&Wd.inB y 1 20
theorem Zs {x y:Int}:ZC x y=true↔1<=x/\x<=40/\1<=y/\y<=20:=by simp[ZC,Wd.inB,and_assoc]
def zfh (W H:Nat):Rs:=⟨W,H,0,0,false,Pn.plain,0,(H:Int)-1,⟨#[]⟩,0,λ_ _=>blk Pn.plain⟩
theorem zg4 {W H:Nat} (w1:1<=W) (w2:W<=40) (h1:1<=H) (h2:H<=20):(zfh W H).Ok:=
 ⟨w1,w2,h1,h2,Int.le_refl 0,by show(0:Int)<W;omega,Int.le_refl 0,by show(0:Int)<H;omega,Int.le_refl 0,by show(0:Int)<=(H:Int)-1;omega,by show(H:Int)-1<H;omega,(λq=>by cases q),zep W H⟩
abbrev zcs (W H:Nat) (x y:Int) (pend:Bool) (n:Pn) (top bot:Int) (ground:Bool):Value:=.agg #[.int .i64 W,.int .i64 H,.int .i64 x,.int .i64 y,.bool pend,.int .i64 n.f,.int .i64 n.b,.bool n.bo,.bool n.un,.bool n.re,.int .i64 top,.int .i64 bot,.bool ground]
def zat (s:Rs):Bool:=s.B.toList.isEmpty
def zbR:zk:=⟨0,0,Pn.plain⟩
def zaB (s:Rs) (W H:Nat):Rs:=ZQ {s with W:=W,H:=H,top:=0,bot:=(H:Int)-1,G:=ZJ s.W s.H W s.G} s.x s.y
theorem zcT {s:Rs} (h:s.Ok) {W H:Nat} (w1:1<=W) (w2:W<=40) (h1:1<=H) (h2:H<=20):(zaB s W H).Ok:=by
 have a:=zbJ s.x W w1;have b:=zbJ s.y H h1;exact⟨w1,w2,h1,h2,a.1,a.2,b.1,b.2,Int.le_refl 0,by show(0:Int)<=(H:Int)-1;omega,by show(H:Int)-1<H;omega,(λq=>by cases q),h.wf.sized⟩
end
section
def zQ (c:Int):Int:=if 194<=c/\c<=223 then 2 else if 224<=c/\c<=239 then 3 else if 240<=c/\c<=244 then 4 else 0
def zbb (a:Int):Int:=if a=224 then 160 else if a=240 then 144 else 128
def Z6 (a:Int):Int:=if a=237 then 159 else if a=244 then 143 else 191
def zq (b:List UInt8) (c:Int):Bool:=match b with
 |[a]=>decide (zbb a.toNat<=c)&&decide (c<=Z6 a.toNat)
 |_=>decide (128<=c)&&decide (c<=191)
def Zn (b:List UInt8):Int:=match b with
 |[a,b]=>64*((a.toNat:Int)-192)+b.toNat-128
 |[a,b,c]=>64*(64*((a.toNat:Int)-224)+b.toNat-128)+c.toNat-128
 |[a,b,c,d]=>64*(64*(64*((a.toNat:Int)-240)+b.toNat-128)+c.toNat-128)+d.toNat-128
 |_=>0
end
end Go.Proofs.YtjlfibhbfdckpaaGreatDoor
