import Derived.Test.YtjlfibhbfdckpaaGreatDoorW02
namespace Go.Proofs.YtjlfibhbfdckpaaGreatDoor
set_option maxHeartbeats 64000000
set_option maxRecDepth 100000
section
open Go.RowKit
attribute [local go_sem ↓] Go.wp_at_zero Go.wp_at_succ
theorem zhj (bc g cap W H N W' H':Nat) (G:Nat->Nat->zk) (w:World) (h:Zp w bc g cap W H N G) (hwf:Wf W H G) (w1:1<=W') (w2:W'<=40) (h1:1<=H') (h2:H'<=20):
 Calls Tryz.prog 90 #[.pointer (some ⟨bc,0,none⟩),.int .i64 W',.int .i64 H'] w λe w'=>∃g' cap',e=.returned (.tuple #[])/\Zp w' bc g' cap' W' H' (H'*W') (ZJ W H W' G)/\zd (λi=>i=bc) w w'/\w.heap.size<=g':=by
 have bl:=h.lt;have gl:=h.glt;have hw2:=h.w2;have hh2:=h.h2;have Hwf:=zH hwf;have hl0:=zH h;clear h hwf;obtain⟨N',hN'⟩:∃N',H'*W'=N':=⟨_,rfl⟩;rw[hN'];have HN':=zH hN'.symm;clear hN';go_in;go_wp2_with fail;go_at_call 74;refine(zg3 W' H' _ w1 w2 h1 h2).mono ?_;rintro e wm ⟨bd,gd,cd,rfl,hbd,hgd,Dm,Bm⟩;rw[←HN'.out] at Dm;have hNle:=Dm.nle;have HDm:=zH Dm;have nbg:=Dm.ne;clear Dm;go_wp2_with fail;go_loopw[7] (λi w'=>∃(y:Nat),y<=H'/\i=.int .i64 y/\Zp w' bc g cap W H N G/\Zp w' bd gd cd W' H' N' (cp W H G 0 y)/\Below w.heap.size w w') (λi _=>H'-(intOf i).toNat)
 case atStart=>exact⟨0,by omega,rfl,hl0.out.below Bm,by rw[zpu];exact HDm.out,Bm⟩
 case round=>
  obtain⟨y,hy,rfl,hC,hD,hB⟩:=hrel;have HC0:=zH hC;have HD0:=zH hD;have c1:=hC.c1;clear hC hD HDm Bm hl0;rcases(by omega:(y<H'/\y<H)\/(y<H'/\H<=y)\/H'<=y) with⟨a1,a2⟩|⟨a1,a2⟩|a1
  ·have a1':(y:Int)<H':=by omega
   have a2':(y:Int)<H:=by omega
   go_wp2_with fail;go_loopw[8] (λi w'=>∃(x:Nat),x<=W'/\i=.int .i64 x/\Zp w' bc g cap W H N G/\Zp w' bd gd cd W' H' N' (cp W H G x y)/\Below w.heap.size w w') (λi _=>W'-(intOf i).toNat)
   case atStart=>exact⟨0,by omega,rfl,HC0.out,HD0.out,hB⟩
   case round=>
    clear HC0 HD0 c1 hB;obtain⟨x,hx,rfl,hC,hD,hB⟩:=hrel;have c0:=hC.c0;rcases(by omega:(x<W'/\x<W)\/(x<W'/\W<=x)\/W'<=x) with⟨b1,b2⟩|⟨b1,b2⟩|b1
    ·have b1':(x:Int)<W':=by omega
     have b2':(x:Int)<W:=by omega
     have hl:y*W'+x<N':=by rw[HN'.out];exact zas b1 a1
     obtain⟨m,hm⟩:∃m,y*W'+x=m:=⟨_,rfl⟩;obtain⟨mm,hmm⟩:∃mm,y*W'=mm:=⟨_,rfl⟩;have Hm:=zH hm;rw[hm] at hl;rw[hmm] at hm;have hv1:IntKind.i64.wrap ((y:Int)*(W':Int))=(mm:Int):=by rw[←Int.natCast_mul,hmm];exact zm _ (by omega) (by omega)
     have hv2:IntKind.i64.wrap ((mm:Int)+(x:Int))=(m:Int):=by rw[zm _ (by omega) (by omega)];omega
     have hi1:(0:Int)<=(m:Int):=by omega
     have hi2:(m:Int)<(N':Int):=by omega
     clear hm hmm;have tgt:=hD.grid.cel x y b1 a1;rw[Hm.out] at tgt;obtain⟨t0,t1,t2,t3,t4,t5,t6⟩:=tgt;have fr:=hD.grid.free;have q2:=hD.c2;have lb:=hD.lt;have lg:=hD.glt;have ng1:gd≠bd:=λe=>nbg e.symm;have HC:=zH hC;have HD:=zH hD;clear hC hD;go_wp2_with fail;go_region_held3 (λw'=>w'.cell? ⟨bd,2,none⟩=some (.slice (some ⟨gd,0,none⟩) N' cd)/\(w'.cell? ⟨gd,m*7,none⟩).isSome=true/\(w'.cell? ⟨gd,m*7+1,none⟩).isSome=true/\(w'.cell? ⟨gd,m*7+2,none⟩).isSome=true/\(w'.cell? ⟨gd,m*7+3,none⟩).isSome=true/\(w'.cell? ⟨gd,m*7+4,none⟩).isSome=true/\(w'.cell? ⟨gd,m*7+5,none⟩).isSome=true/\(w'.cell? ⟨gd,m*7+6,none⟩).isSome=true/\(∀o,w'.frozen? ⟨gd,o,none⟩=false)) (simp[*,World.cell?_setCell_far,ZZ]) (first|(go_at_call 94;refine(zeo bc g cap W H N G x y _ HC.out.drew (by omega) (by omega) (by omega) (by omega)).mono ?_;rintro e w5 ⟨rfl,hb5⟩;simp only[Int.toNat_natCast];have e1:=hb5.cells lb;have e3:=hb5.cells lg;have e4:=hb5.marks lg));have hb5:=zL hb5;have D6:=(HD.out.below hb5).put b1 a1 (G x y);rw[Hm.out] at D6;have C6:Zp (put7 w5 gd (m*7) (G x y)) bc g cap W H N G:=(HC.out.below hb5).same (zW _ _ _ _ _ (by omega)) (zW _ _ _ _ _ (by omega));have B6:Below w.heap.size w (put7 w5 gd (m*7) (G x y)):=((zd.below (λi=>i=gd) (hB.trans (hb5.mono hB.size))).put7 _ _ _ (λ_=>rfl)).toBelow (Nat.le_refl _) (λi hi=>by omega);generalize hW6:put7 w5 gd (m*7) (G x y)=w6 at *;unfold put7 at hW6;rw[hW6];rename_i hS;clear hS hW6 e1 e3 e4 q2 t0 t1 t2 t3 t4 t5 t6 fr HC HD hB hb5;go_wp2_with fail;go_roundw
     case rel=>exact⟨x+1,by omega,by go_num,C6,D6.congr (ztU W H W' H' G x y b2 a2),B6⟩
     case measure=>simp[intOf];omega
    ·have b1':(x:Int)<W':=by omega
     have b2':(W:Int)<=x:=by omega
     have HC:=zH hC;have HD:=zH hD;clear hC hD;go_wp2_with fail;go_roundw
     case rel=>exact⟨y+1,by omega,by go_num,HC.out,HD.out.congr (zm8 W H W' H' G x y (by omega)),hB⟩
     case measure=>simp[intOf];omega
    ·have b1':(W':Int)<=x:=by omega
     have HC:=zH hC;have HD:=zH hD;clear hC hD;go_wp2_with fail;go_roundw
     case rel=>exact⟨y+1,by omega,by go_num,HC.out,HD.out.congr (zm8 W H W' H' G x y (by omega)),hB⟩
     case measure=>simp[intOf];omega
  ·have a1':(y:Int)<H':=by omega
   have a2':(H:Int)<=y:=by omega
   have hCa:=HD0.out.congr (zpv W H W' H' G y (by omega));have HCa:=zH hCa;clear hCa HD0;go_wp2_with fail;go_at_call 142;refine(ziD bd gd cd W' H' N' _ _ HCa.out (zkk Hwf.out)).mono ?_;rintro e w4 ⟨rfl,D4,K4⟩;have C4:=HC0.out.same (K4.block _ HC0.out.lt (by omega)) (K4.block _ HC0.out.glt (by omega));have B4:=hB.trans (K4.toBelow hB.size (λi hi=>by omega));have hbc:=C4.blk;have q0:=C4.c0;have q1:=C4.c1;have q2:=C4.c2;have fb:=ze hbc;have d2:=D4.c2;have l4:=C4.lt;have HD4:=zH D4;have Hbc:=zH hbc;have nbd:bc≠bd:=by omega
   clear C4 D4 K4 HCa hbc;go_wp2_with fail;go_end0;have K9:zd (λi=>i=bc) w (((w4.setCell ⟨bc,0,none⟩ (.int .i64 W')).setCell ⟨bc,1,none⟩ (.int .i64 H')).setCell ⟨bc,2,none⟩ (.slice (some ⟨gd,0,none⟩) N' cd)):=
    (((zd.below (λi=>i=bc) B4).setCell _ _ (λ_=>rfl)).setCell _ _ (λ_=>rfl)).setCell _ _ (λ_=>rfl)
   have hb9:=zg (zg (zg Hbc.out 0 (.int .i64 W')) 1 (.int .i64 H')) 2 (.slice (some ⟨gd,0,none⟩) N' cd);have hg9:(((w4.setCell ⟨bc,0,none⟩ (.int .i64 W')).setCell ⟨bc,1,none⟩ (.int .i64 H')).setCell ⟨bc,2,none⟩ (.slice (some ⟨gd,0,none⟩) N' cd)).heap[gd]?=w4.heap[gd]?:=by
    have hne:gd≠bc:=by omega
    rw[Below.heap_setCell _ _ _ _ hne,Below.heap_setCell _ _ _ _ hne,Below.heap_setCell _ _ _ _ hne]
   exact⟨gd,cd,rfl,⟨hb9,HD4.out.grid.same hg9,HN'.out,by omega,w1,w2,h1,h2⟩,K9,by omega⟩
  ·have a1':(H':Int)<=y:=by omega
   have hCa:=HD0.out.congr (zpv W H W' H' G y (by omega));have HCa:=zH hCa;clear hCa HD0;go_wp2_with fail;go_at_call 142;refine(ziD bd gd cd W' H' N' _ _ HCa.out (zkk Hwf.out)).mono ?_;rintro e w4 ⟨rfl,D4,K4⟩;have C4:=HC0.out.same (K4.block _ HC0.out.lt (by omega)) (K4.block _ HC0.out.glt (by omega));have B4:=hB.trans (K4.toBelow hB.size (λi hi=>by omega));have hbc:=C4.blk;have q0:=C4.c0;have q1:=C4.c1;have q2:=C4.c2;have fb:=ze hbc;have d2:=D4.c2;have l4:=C4.lt;have HD4:=zH D4;have Hbc:=zH hbc;have nbd:bc≠bd:=by omega
   clear C4 D4 K4 HCa hbc;go_wp2_with fail;go_end0;have K9:zd (λi=>i=bc) w (((w4.setCell ⟨bc,0,none⟩ (.int .i64 W')).setCell ⟨bc,1,none⟩ (.int .i64 H')).setCell ⟨bc,2,none⟩ (.slice (some ⟨gd,0,none⟩) N' cd)):=
    (((zd.below (λi=>i=bc) B4).setCell _ _ (λ_=>rfl)).setCell _ _ (λ_=>rfl)).setCell _ _ (λ_=>rfl)
   have hb9:=zg (zg (zg Hbc.out 0 (.int .i64 W')) 1 (.int .i64 H')) 2 (.slice (some ⟨gd,0,none⟩) N' cd);have hg9:(((w4.setCell ⟨bc,0,none⟩ (.int .i64 W')).setCell ⟨bc,1,none⟩ (.int .i64 H')).setCell ⟨bc,2,none⟩ (.slice (some ⟨gd,0,none⟩) N' cd)).heap[gd]?=w4.heap[gd]?:=by
    have hne:gd≠bc:=by omega
    rw[Below.heap_setCell _ _ _ _ hne,Below.heap_setCell _ _ _ _ hne,Below.heap_setCell _ _ _ _ hne]
   exact⟨gd,cd,rfl,⟨hb9,HD4.out.grid.same hg9,HN'.out,by omega,w1,w2,h1,h2⟩,K9,by omega⟩
end
section
open Wd (wd)
structure Rs where
 W:Nat
 H:Nat
 x:Int
 y:Int
 pend:Bool
 pen:Pn
 top:Int
 bot:Int
 B:ByteArray
 odd:Int
 G:Nat->Nat->zk
structure Rs.Ok (s:Rs):Prop where
 w1:1<=s.W
 w2:s.W<=40
 h1:1<=s.H
 h2:s.H<=20
 x0:0<=s.x
 x1:s.x<s.W
 y0:0<=s.y
 y1:s.y<s.H
 t0:0<=s.top
 tb:s.top<=s.bot
 b1:s.bot<s.H
 pd:s.pend=true->s.x=(s.W:Int)-1
 wf:Wf s.W s.H s.G
def zap (v:Int) (m:Nat):Int:=if v<0 then 0 else if (m:Int)-1<v then(m:Int)-1 else v
theorem zbJ (v:Int) (m:Nat) (h:1<=m):0<=zap v m/\zap v m<m:=by
 unfold zap;by_cases h1:v<0
 ·rw[if_pos h1];omega
 ·rw[if_neg h1];by_cases h2:(m:Int)-1<v
  ·rw[if_pos h2];omega
  ·rw[if_neg h2];omega
def ZQ (s:Rs) (x y:Int):Rs:={s with x:=zap x s.W,y:=zap y s.H,pend:=false}
def zS (s:Rs):Pn:=⟨0,s.pen.b,false,false,false⟩
def zt (s:Rs):Rs:=if s.y=s.bot then {s with G:=zo s.top s.bot 1 (zS s) s.G,pend:=false} else ZQ s s.x (s.y+1)
abbrev zf2 (bc:Nat) (s:Rs):Array Value:=#[.pointer (some ⟨bc,0,none⟩),.int .i64 s.W,.int .i64 s.H,.int .i64 s.x,.int .i64 s.y,.bool s.pend,.int .i64 s.pen.f,.int .i64 s.pen.b,.bool s.pen.bo,.bool s.pen.un,.bool s.pen.re,.int .i64 s.top,.int .i64 s.bot,.bool false,.string s.B,.int .i64 s.odd]
structure zi (w:World) (bs bc g cap N:Nat) (s:Rs):Prop where
 blk:w.heap[bs]?=some (.cells (zf2 bc s) 104)
 cels:Zp w bc g cap s.W s.H N s.G
 ne1:bs≠bc
 ne2:bs≠g
section
variable {w w':World} {bs bc g cap N:Nat} {s:Rs}
theorem zi.lt (h:zi w bs bc g cap N s):bs<w.heap.size:=(Array.getElem?_eq_some_iff.1 h.blk).1
theorem zi.same (h:zi w bs bc g cap N s) (h1:w'.heap[bs]?=w.heap[bs]?) (h2:w'.heap[bc]?=w.heap[bc]?) (h3:w'.heap[g]?=w.heap[g]?):zi w' bs bc g cap N s:=
 ⟨by rw[h1];exact h.blk,h.cels.same h2 h3,h.ne1,h.ne2⟩
theorem zi.below (h:zi w bs bc g cap N s) (hb:Go.RowKit.Below w.heap.size w w'):zi w' bs bc g cap N s:=
 h.same (hb.block _ h.lt) (hb.block _ h.cels.lt) (hb.block _ h.cels.glt)
theorem zi.free (h:zi w bs bc g cap N s):∀o,w.frozen? ⟨bs,o,none⟩=false:=ze h.blk
theorem zi.drew (h:zi w bs bc g cap N s):zi w.drew bs bc g cap N s:=h.same rfl rfl rfl
theorem zi.store (h:zi w bs bc g cap N s) (o:Nat) (v:Value) (s':Rs) (hs:(zf2 bc s).setIfInBounds o v=zf2 bc s') (hW:s'.W=s.W) (hH:s'.H=s.H) (hG:s'.G=s.G):zi (w.setCell ⟨bs,o,none⟩ v) bs bc g cap N s':=by
 refine⟨?_,?_,h.ne1,h.ne2⟩
 ·rw[zg h.blk,hs]
 ·rw[hW,hH,hG];exact h.cels.same (Go.RowKit.Below.heap_setCell _ _ _ _ (λe=>h.ne1 e.symm)) (Go.RowKit.Below.heap_setCell _ _ _ _ (λe=>h.ne2 e.symm))
theorem zi.cells {g' cap':Nat} (h:zi w bs bc g cap N s) (s':Rs) (hb:w'.heap[bs]?=w.heap[bs]?) (hc:Zp w' bc g' cap' s'.W s'.H N s'.G) (hs:zf2 bc s'=zf2 bc s) (hg:bs≠g'):zi w' bs bc g' cap' N s' :=
 ⟨by rw[hb,hs];exact h.blk,hc,h.ne1,hg⟩
theorem zi.f0 (h:zi w bs bc g cap N s):w.cell? ⟨bs,0,none⟩=some (.pointer (some ⟨bc,0,none⟩)):=za h.blk 0
theorem zi.f1 (h:zi w bs bc g cap N s):w.cell? ⟨bs,1,none⟩=some (.int .i64 s.W):=za h.blk 1
theorem zi.f2 (h:zi w bs bc g cap N s):w.cell? ⟨bs,2,none⟩=some (.int .i64 s.H):=za h.blk 2
theorem zi.f3 (h:zi w bs bc g cap N s):w.cell? ⟨bs,3,none⟩=some (.int .i64 s.x):=za h.blk 3
theorem zi.f4 (h:zi w bs bc g cap N s):w.cell? ⟨bs,4,none⟩=some (.int .i64 s.y):=za h.blk 4
theorem zi.f5 (h:zi w bs bc g cap N s):w.cell? ⟨bs,5,none⟩=some (.bool s.pend):=za h.blk 5
theorem zi.f6 (h:zi w bs bc g cap N s):w.cell? ⟨bs,6,none⟩=some (.int .i64 s.pen.f):=za h.blk 6
theorem zi.f7 (h:zi w bs bc g cap N s):w.cell? ⟨bs,7,none⟩=some (.int .i64 s.pen.b):=za h.blk 7
theorem zi.f8 (h:zi w bs bc g cap N s):w.cell? ⟨bs,8,none⟩=some (.bool s.pen.bo):=za h.blk 8
theorem zi.f9 (h:zi w bs bc g cap N s):w.cell? ⟨bs,9,none⟩=some (.bool s.pen.un):=za h.blk 9
theorem zi.f10 (h:zi w bs bc g cap N s):w.cell? ⟨bs,10,none⟩=some (.bool s.pen.re):=za h.blk 10
theorem zi.f11 (h:zi w bs bc g cap N s):w.cell? ⟨bs,11,none⟩=some (.int .i64 s.top):=za h.blk 11
theorem zi.f12 (h:zi w bs bc g cap N s):w.cell? ⟨bs,12,none⟩=some (.int .i64 s.bot):=za h.blk 12
theorem zi.f13 (h:zi w bs bc g cap N s):w.cell? ⟨bs,13,none⟩=some (.bool false):=za h.blk 13
theorem zi.f14 (h:zi w bs bc g cap N s):w.cell? ⟨bs,14,none⟩=some (.string s.B):=za h.blk 14
theorem zi.f15 (h:zi w bs bc g cap N s):w.cell? ⟨bs,15,none⟩=some (.int .i64 s.odd):=za h.blk 15
theorem zi.setX (h:zi w bs bc g cap N s) (v:Int):zi (w.setCell ⟨bs,3,none⟩ (.int .i64 v)) bs bc g cap N {s with x:=v}:=h.store 3 _ {s with x:=v} rfl rfl rfl rfl
theorem zi.setY (h:zi w bs bc g cap N s) (v:Int):zi (w.setCell ⟨bs,4,none⟩ (.int .i64 v)) bs bc g cap N {s with y:=v}:=h.store 4 _ {s with y:=v} rfl rfl rfl rfl
theorem zi.setPend (h:zi w bs bc g cap N s) (v:Bool):zi (w.setCell ⟨bs,5,none⟩ (.bool v)) bs bc g cap N {s with pend:=v}:=h.store 5 _ {s with pend:=v} rfl rfl rfl rfl
theorem zi.setTop (h:zi w bs bc g cap N s) (v:Int):zi (w.setCell ⟨bs,11,none⟩ (.int .i64 v)) bs bc g cap N {s with top:=v}:=h.store 11 _ {s with top:=v} rfl rfl rfl rfl
theorem zi.setBot (h:zi w bs bc g cap N s) (v:Int):zi (w.setCell ⟨bs,12,none⟩ (.int .i64 v)) bs bc g cap N {s with bot:=v}:=h.store 12 _ {s with bot:=v} rfl rfl rfl rfl
theorem zi.setB (h:zi w bs bc g cap N s) (v:ByteArray):zi (w.setCell ⟨bs,14,none⟩ (.string v)) bs bc g cap N {s with B:=v}:=h.store 14 _ {s with B:=v} rfl rfl rfl rfl
theorem zi.setOdd (h:zi w bs bc g cap N s) (v:Int):zi (w.setCell ⟨bs,15,none⟩ (.int .i64 v)) bs bc g cap N {s with odd:=v}:=h.store 15 _ {s with odd:=v} rfl rfl rfl rfl
theorem zi.setXYP (h:zi w bs bc g cap N s) (a b:Int):zi (((w.setCell ⟨bs,3,none⟩ (.int .i64 a)).setCell ⟨bs,4,none⟩ (.int .i64 b)).setCell ⟨bs,5,none⟩ (.bool false)) bs bc g cap N {s with x:=a,y:=b,pend:=false} :=
 ((h.setX a).setY b).setPend false
theorem zpw (w:World) (bs:Nat) (a b c:Value):zd (λi=>i=bs) w (((w.setCell ⟨bs,3,none⟩ a).setCell ⟨bs,4,none⟩ b).setCell ⟨bs,5,none⟩ c):=
 (((zd.refl (λi=>i=bs) w).setCell ⟨bs,3,none⟩ a (λ_=>rfl)).setCell ⟨bs,4,none⟩ b (λ_=>rfl)).setCell ⟨bs,5,none⟩ c (λ_=>rfl)
theorem zi.drewN (h:zi w bs bc g cap N s) (n:Nat):zi (w.drewN n) bs bc g cap N s:=h.same rfl rfl rfl
end
def zac (bs bc g:Nat) (w:World) (s:Rs) (r:Value) (e:Ending) (w':World):Prop:=
 ∃g' cap' N',e=.returned r/\zi w' bs bc g' cap' N' s/\zd (λi=>i=bs\/i=bc\/i=g) w w'/\(g'=g\/w.heap.size<=g')
theorem Z5 {bs bc g g' cap' N':Nat} {w w':World} {s:Rs} {r:Value} (h:zi w' bs bc g' cap' N' s) (k:zd (λi=>i=bs\/i=bc\/i=g) w w') (hg:g'=g\/w.heap.size<=g'):zac bs bc g w s r (.returned r) w':=⟨g',cap',N',rfl,h,k,hg⟩
def zeq (W:Nat) (r:Int):Int:=if wd r=2/\W=1 then 32 else r
def ze1 (W:Nat) (r:Int):Int:=if wd r=2/\W=1 then 1 else wd r
def zb8 (s:Rs) (k:Int):Bool:=s.pend||(decide (k=2)&&decide (s.x=(s.W:Int)-1))
def zaa (s:Rs) (k:Int):Rs:=if zb8 s k=true then zt {s with x:=0} else s
def za8 (s:Rs) (r:Int):Rs:={s with G:=zR s.W s.H s.G s.x s.y r s.pen}
def zcr (s:Rs) (k:Int):Rs:=if (s.W:Int)<=s.x+k then {s with x:=(s.W:Int)-1,pend:=true} else {s with x:=s.x+k}
def zba (s:Rs) (r:Int):Rs:=
 if wd r=0 then {s with odd:=Go.RowKit.wrap64 (s.odd+1)} else zcr (za8 (zaa s (ze1 s.W r)) (zeq s.W r)) (ze1 s.W r)
theorem zpx {s:Rs} (h:s.Ok):Rs.Ok { ({s with x:=0}:Rs) with pend:=false}:=⟨h.w1,h.w2,h.h1,h.h2,Int.le_refl 0,by have:=h.w1;show(0:Int)<s.W;omega,h.y0,h.y1,h.t0,h.tb,h.b1,(λq=>by cases q),h.wf⟩
theorem Rs.Ok.goes {s:Rs} (h:s.Ok) (x y:Int):(ZQ s x y).Ok:=by
 have a:=zbJ x s.W h.w1;have b:=zbJ y s.H h.h1;exact⟨h.w1,h.w2,h.h1,h.h2,a.1,a.2,b.1,b.2,h.t0,h.tb,h.b1,(λq=>by cases q),h.wf⟩
theorem zf3 {s:Rs} (h:s.Ok) (n:Int) (p:Pn):Rs.Ok {s with G:=zo s.top s.bot n p s.G} :=
 ⟨h.w1,h.w2,h.h1,h.h2,h.x0,h.x1,h.y0,h.y1,h.t0,h.tb,h.b1,h.pd,h.wf.scroll _ _ _ _ h.t0 h.b1⟩
theorem zjw {s:Rs} (h:s.Ok):Rs.Ok {s with pend:=false} :=
 ⟨h.w1,h.w2,h.h1,h.h2,h.x0,h.x1,h.y0,h.y1,h.t0,h.tb,h.b1,(λq=>by cases q),h.wf⟩
theorem zpy {s:Rs} (h:s.Ok):(zt {s with x:=0}).Ok:=by
 have hx:(0:Int)<s.W:=by have:=h.w1;omega
 unfold zt;split
 ·exact⟨h.w1,h.w2,h.h1,h.h2,Int.le_refl 0,hx,h.y0,h.y1,h.t0,h.tb,h.b1,(λq=>by cases q),h.wf.scroll _ _ _ _ h.t0 h.b1⟩
 ·have a:=zbJ 0 s.W h.w1;have b:=zbJ (s.y+1) s.H h.h1;exact⟨h.w1,h.w2,h.h1,h.h2,a.1,a.2,b.1,b.2,h.t0,h.tb,h.b1,(λq=>by cases q),h.wf⟩
theorem Rs.Ok.lf {s:Rs} (h:s.Ok):(zt s).Ok:=by
 unfold zt;split
 ·exact zjw (zf3 h 1 (zS s))
 ·exact h.goes _ _
theorem Rs.Ok.broken {s:Rs} (h:s.Ok) (k:Int):(zaa s k).Ok:=by
 unfold zaa;split
 ·exact zpy h
 ·exact h
def ZC (x y:Int):Bool:=Wd.inB x 1 40&&Wd.inB y 1 20
theorem Zs {x y:Int}:ZC x y=true↔1<=x/\x<=40/\1<=y/\y<=20:=by simp[ZC,Wd.inB,and_assoc]
def zfh (W H:Nat):Rs:=⟨W,H,0,0,false,Pn.plain,0,(H:Int)-1,⟨#[]⟩,0,λ_ _=>blk Pn.plain⟩
theorem zg4 {W H:Nat} (w1:1<=W) (w2:W<=40) (h1:1<=H) (h2:H<=20):(zfh W H).Ok:=
 ⟨w1,w2,h1,h2,Int.le_refl 0,by show(0:Int)<W;omega,Int.le_refl 0,by show(0:Int)<H;omega,Int.le_refl 0,by show(0:Int)<=(H:Int)-1;omega,by show(H:Int)-1<H;omega,(λq=>by cases q),zep W H⟩
abbrev zcs (W H:Nat) (x y:Int) (pend:Bool) (n:Pn) (top bot:Int) (ground:Bool):Value:=.agg #[.int .i64 W,.int .i64 H,.int .i64 x,.int .i64 y,.bool pend,.int .i64 n.f,.int .i64 n.b,.bool n.bo,.bool n.un,.bool n.re,.int .i64 top,.int .i64 bot,.bool ground]
def zat (s:Rs):Bool:=s.B.toList.isEmpty
def zbR:zk:=⟨0,0,Pn.plain⟩
def zaB (s:Rs) (W H:Nat):Rs:=ZQ {s with W:=W,H:=H,top:=0,bot:=(H:Int)-1,G:=ZJ s.W s.H W s.G} s.x s.y
theorem zcT {s:Rs} (h:s.Ok) {W H:Nat} (w1:1<=W) (w2:W<=40) (h1:1<=H) (h2:H<=20):(zaB s W H).Ok:=by
 have a:=zbJ s.x W w1;have b:=zbJ s.y H h1;exact⟨w1,w2,h1,h2,a.1,a.2,b.1,b.2,Int.le_refl 0,by show(0:Int)<=(H:Int)-1;omega,by show(H:Int)-1<H;omega,(λq=>by cases q),h.wf.sized⟩
end
section
open Go.RowKit
attribute [local go_sem ↓] Go.wp_at_zero Go.wp_at_succ
theorem ziE {W w1:World} (hb:Below W.heap.size W w1):(∀b o,b<W.heap.size->w1.cell? ⟨b,o,none⟩=W.cell? ⟨b,o,none⟩)/\(∀b o,b<W.heap.size->w1.frozen? ⟨b,o,none⟩=W.frozen? ⟨b,o,none⟩):=
 ⟨λb o h=>hb.cell (p:=⟨b,o,none⟩) h,λb o h=>hb.frozen (p:=⟨b,o,none⟩) h⟩
theorem zer (bc g cap W H N:Nat) (G:Nat->Nat->zk) (x y:Int) (k:zk) (w:World) (h:Zp w bc g cap W H N G)
 (hh:inG W H x y=true->((G x.toNat y.toNat).p=1->x+1<W)/\((G x.toNat y.toNat).p=2->1<=x)):
 Calls Tryz.prog 137 #[.pointer (some ⟨bc,0,none⟩),.int .i64 x,.int .i64 y,k.agg] w λe w'=>e=.returned (.tuple #[])/\Zp w' bc g cap W H N (setG W H G x y k)/\zd (λi=>i=g) w w':=by
 cases hin:inG W H x y
 ·have hs:setG W H G x y k=G:=by simp[setG,hin]
  rw[hs];have h0:=h.c0;have h1:=h.c1;have l1:=h.lt;have hC:=zH h;clear h hs hh;go_in;go_wp2_with fail;go_at_call 92;refine(zbQ bc W H x y _ ?_ ?_).mono ?_
  ·simp[go_sem,h0,l1]
  ·simp[go_sem,h1,l1]
  rintro e w' ⟨rfl,rfl⟩;go_wp2_with fail;have hb:Below w.heap.size w (w.alloc (.cells #[.int .i32 k.r,.int .i64 k.p,.int .i64 k.n.f,.int .i64 k.n.b,.bool k.n.bo,.bool k.n.un,.bool k.n.re] 38)):=(Below.refl _ _).alloc (Nat.le_refl _) _;exact bodyPost_ret (v:=.tuple #[]) (by simp[results,Tryz.results137,go_sem]) rfl ⟨rfl,hC.out.below hb,zd.below _ hb⟩
 ·obtain⟨x0,x1,y0,y1⟩:=zu.1 hin;obtain⟨hp1,hp2⟩:=hh hin;obtain⟨x,rfl⟩:=Int.eq_ofNat_of_zero_le x0;obtain⟨y,rfl⟩:=Int.eq_ofNat_of_zero_le y0;simp only[setG,hin,Int.toNat_natCast,if_true] at hp1 hp2 ⊢;have h0:=h.c0;have h1:=h.c1;have l1:=h.lt;have hC:=zH h;have hx:x<W:=by omega
  have hy:y<H:=by omega
  have hl:y*W+x<N:=by rw[h.hN];exact zas (by omega) (by omega)
  have hlen:=h.nle;obtain⟨i,hi⟩:∃i,y*W+x=i:=⟨_,rfl⟩;obtain⟨m,hm⟩:∃m,y*W=m:=⟨_,rfl⟩;have Hi:=zH hi;rw[hi] at hl;rw[hm] at hi;have hw1:IntKind.i64.wrap ((y:Int)*(W:Int))=(m:Int):=by rw[←Int.natCast_mul,hm];exact zm _ (by omega) (by omega)
  have hw2:IntKind.i64.wrap ((m:Int)+(x:Int))=(i:Int):=by rw[zm _ (by omega) (by omega)];omega
  have hi1:(0:Int)<=(i:Int):=by omega
  have hi2:(i:Int)<(N:Int):=by omega
  clear hm hi;rcases(by omega:(G x y).p=1\/(G x y).p=2\/((G x y).p≠1/\(G x y).p≠2)) with p1|p1|⟨p1,p2⟩
  ·have hx1:=hp1 p1;rw[if_pos p1];go_in;go_wp2_with fail;go_at_call 92;refine(zbQ bc W H x y _ ?_ ?_).mono ?_
   ·simp[go_sem,h0,l1]
   ·simp[go_sem,h1,l1]
   rintro e w' ⟨rfl,rfl⟩;go_wp2_with fail;go_at_call 94;refine(zeo bc g cap W H N G x y _ (h.below ((Below.refl _ _).alloc (Nat.le_refl _) _)) x0 x1 y0 y1).mono ?_;rintro e w2 ⟨rfl,hb2⟩;simp only[Int.toNat_natCast];go_wp2_with fail;have hb3:=((Below.refl _ _).alloc (Nat.le_refl _) _).trans (hb2.mono (by simp));have k3:zv w2 w.heap.size 0 k:=by
    obtain⟨hc,_⟩:=ziE hb2;refine⟨?_,?_,?_,?_,?_,?_,?_⟩<;>(rw[hc _ _ (by simp)];simp[go_sem])
   have s2:w.heap.size<w2.heap.size:=by have:=hb2.size;simp at this;omega
   generalize hW:w2.alloc _=W3;have hbw:Below w2.heap.size w2 W3:=by rw[←hW];exact(Below.refl _ _).alloc (Nat.le_refl _) _
   have o3:zv W3 w2.heap.size 0 (G x y):=by
    rw[←hW];refine⟨?_,?_,?_,?_,?_,?_,?_⟩<;>first|(simp[go_sem];done)|(simp[go_sem,p1];done)
   have s3:=o3.lt;have k4:zv W3 w.heap.size 0 k:=by
    obtain⟨hc,_⟩:=ziE hbw;obtain⟨a0,a1,a2,a3,a4,a5,a6⟩:=k3;refine⟨?_,?_,?_,?_,?_,?_,?_⟩<;>(rw[hc _ _ s2];assumption)
   have C3:=(h.below hb3).below hbw;have K3:zd (λi=>i=g) w W3:=zd.below _ (hb3.trans (hbw.mono (Nat.le_of_lt s2)));have gk:=Nat.ne_of_gt h.glt;have go:=Nat.ne_of_gt (Nat.lt_trans h.glt s2);have bk:=Nat.ne_of_gt h.lt;have bo:=Nat.ne_of_gt (Nat.lt_trans h.lt s2);clear hb3 k3 hW hbw hb2 hC h0 h1 l1 hh hin hp1 hp2;generalize hsk:w.heap.size=B1 at *;generalize hso:w2.heap.size=B2 at *;clear hso;have Hsk:=zH hsk;clear hsk;obtain⟨j,hj⟩:∃j,i+1=j:=⟨_,rfl⟩;have hw3:IntKind.i64.wrap ((i:Int)+1)=(j:Int):=by rw[zm _ (by omega) (by omega)];omega
   have hj2:(j:Int)<(N:Int):=by
    have:=@zas W H (x+1) y (by omega) hy;rw[←C3.hN] at this;have:=Hi.out;omega
   have hj1:(0:Int)<=(j:Int):=by omega
   have hjx:y*W+(x+1)=j:=by have:=Hi.out;omega
   have tgt:=C3.grid.cel (x+1) y (by omega) hy;rw[hjx] at tgt;have Hjx:=zH hjx;clear hjx hj;obtain⟨t0,t1,t2,t3,t4,t5,t6⟩:=tgt;have fr:=C3.grid.free;have q0:=C3.c0;have q2:=C3.c2;obtain⟨d0,d1,d2,d3,d4,d5,d6⟩:=o3;have lb:=C3.lt;have lg:=C3.glt;have ng1:g≠bc:=λe=>C3.ne e.symm;have ng2:g≠B2:=λe=>go e.symm;go_region_held3 (λw'=>w'.cell? ⟨bc,0,none⟩=some (.int .i64 W)/\w'.cell? ⟨bc,2,none⟩=some (.slice (some ⟨g,0,none⟩) N cap)/\w'.cell? ⟨B2,2,none⟩=some (.int .i64 (G x y).n.f)/\w'.cell? ⟨B2,3,none⟩=some (.int .i64 (G x y).n.b)/\w'.cell? ⟨B2,4,none⟩=some (.bool (G x y).n.bo)/\w'.cell? ⟨B2,5,none⟩=some (.bool (G x y).n.un)/\w'.cell? ⟨B2,6,none⟩=some (.bool (G x y).n.re)/\(w'.cell? ⟨g,j*7,none⟩).isSome=true/\(w'.cell? ⟨g,j*7+1,none⟩).isSome=true/\(w'.cell? ⟨g,j*7+2,none⟩).isSome=true/\(w'.cell? ⟨g,j*7+3,none⟩).isSome=true/\(w'.cell? ⟨g,j*7+4,none⟩).isSome=true/\(w'.cell? ⟨g,j*7+5,none⟩).isSome=true/\(w'.cell? ⟨g,j*7+6,none⟩).isSome=true/\(∀o,w'.frozen? ⟨g,o,none⟩=false)) (simp[*,World.cell?_setCell_far,ZZ]) (first|(go_at_call 95;refine(zaj (G x y).n _).mono ?_;rintro e w5 ⟨rfl,hb5⟩;have e1:=hb5.cells lb;have e2:=hb5.cells s3;have e3:=hb5.cells lg;have e4:=hb5.marks lg));have hb5:=zL hb5;have C5:Zp (put7 w5 g (j*7) (blk (G x y).n)) bc g cap W H N (upd G (x+1) y (blk (G x y).n)):=by
    have:=(C3.below hb5).put (x:=x+1) (y:=y) (by omega) hy (blk (G x y).n);rw[Hjx.out] at this;exact this
   have o5:zv (put7 w5 g (j*7) (blk (G x y).n)) B2 0 (G x y):=(zv.below ⟨d0,d1,d2,d3,d4,d5,d6⟩ hb5 s3).put go;have k5:zv (put7 w5 g (j*7) (blk (G x y).n)) B1 0 k:=(k4.below hb5 k4.lt).put gk;have K5:zd (λi=>i=g) w (put7 w5 g (j*7) (blk (G x y).n)):=(K3.thenBelow hb5).put7 _ _ _ (λ_=>rfl);generalize hW5:put7 w5 g (j*7) (blk (G x y).n)=W5 at *;unfold put7 at hW5;rw[hW5];rename_i hS;clear hS hW5 e1 e2 e3 e4 q0 q2 d0 d1 d2 d3 d4 d5 d6 t0 t1 t2 t3 t4 t5 t6 fr;have CC:=C5;have kk:=k5;have KK:=K5;have o51:=o5.2.1;rw[p1] at o51;go_wp2_with fail;have tg:=CC.grid.cel x y hx hy;rw[Hi.out] at tg;obtain⟨a0,a1,a2,a3,a4,a5,a6⟩:=tg;have fr2:=CC.grid.free;have z0:=CC.c0;have z2:=CC.c2;obtain⟨f0,f1,f2,f3,f4,f5,f6⟩:=kk;have ne1:g≠bc:=λe=>CC.ne e.symm;have ne2:g≠B1:=λe=>gk e.symm;go_region_held3 (λw'=>w'.cell? ⟨bc,0,none⟩=some (.int .i64 W)/\w'.cell? ⟨bc,2,none⟩=some (.slice (some ⟨g,0,none⟩) N cap)/\w'.cell? ⟨B1,0,none⟩=some (.int .i32 k.r)/\w'.cell? ⟨B1,1,none⟩=some (.int .i64 k.p)/\w'.cell? ⟨B1,2,none⟩=some (.int .i64 k.n.f)/\w'.cell? ⟨B1,3,none⟩=some (.int .i64 k.n.b)/\w'.cell? ⟨B1,4,none⟩=some (.bool k.n.bo)/\w'.cell? ⟨B1,5,none⟩=some (.bool k.n.un)/\w'.cell? ⟨B1,6,none⟩=some (.bool k.n.re)/\(w'.cell? ⟨g,i*7,none⟩).isSome=true/\(w'.cell? ⟨g,i*7+1,none⟩).isSome=true/\(w'.cell? ⟨g,i*7+2,none⟩).isSome=true/\(w'.cell? ⟨g,i*7+3,none⟩).isSome=true/\(w'.cell? ⟨g,i*7+4,none⟩).isSome=true/\(w'.cell? ⟨g,i*7+5,none⟩).isSome=true/\(w'.cell? ⟨g,i*7+6,none⟩).isSome=true/\(∀o,w'.frozen? ⟨g,o,none⟩=false)) (simp[*,World.cell?_setCell_far,ZZ]) (fail);go_wp2_with fail;go_end0;have CF:=CC.put hx hy k;rw[Hi.out] at CF;exact⟨rfl,CF.drew,(KK.put7 _ _ k (λ_=>rfl)).drew⟩
  ·have hx1:=hp2 p1;rw[if_neg (show¬(G x y).p=1 by omega),if_pos p1];go_in;go_wp2_with fail;go_at_call 92;refine(zbQ bc W H x y _ ?_ ?_).mono ?_
   ·simp[go_sem,h0,l1]
   ·simp[go_sem,h1,l1]
   rintro e w' ⟨rfl,rfl⟩;go_wp2_with fail;go_at_call 94;refine(zeo bc g cap W H N G x y _ (h.below ((Below.refl _ _).alloc (Nat.le_refl _) _)) x0 x1 y0 y1).mono ?_;rintro e w2 ⟨rfl,hb2⟩;simp only[Int.toNat_natCast];go_wp2_with fail;have hb3:=((Below.refl _ _).alloc (Nat.le_refl _) _).trans (hb2.mono (by simp));have k3:zv w2 w.heap.size 0 k:=by
    obtain⟨hc,_⟩:=ziE hb2;refine⟨?_,?_,?_,?_,?_,?_,?_⟩<;>(rw[hc _ _ (by simp)];simp[go_sem])
   have s2:w.heap.size<w2.heap.size:=by have:=hb2.size;simp at this;omega
   generalize hW:w2.alloc _=W3;have hbw:Below w2.heap.size w2 W3:=by rw[←hW];exact(Below.refl _ _).alloc (Nat.le_refl _) _
   have o3:zv W3 w2.heap.size 0 (G x y):=by
    rw[←hW];refine⟨?_,?_,?_,?_,?_,?_,?_⟩<;>first|(simp[go_sem];done)|(simp[go_sem,p1];done)
   have s3:=o3.lt;have k4:zv W3 w.heap.size 0 k:=by
    obtain⟨hc,_⟩:=ziE hbw;obtain⟨a0,a1,a2,a3,a4,a5,a6⟩:=k3;refine⟨?_,?_,?_,?_,?_,?_,?_⟩<;>(rw[hc _ _ s2];assumption)
   have C3:=(h.below hb3).below hbw;have K3:zd (λi=>i=g) w W3:=zd.below _ (hb3.trans (hbw.mono (Nat.le_of_lt s2)));have gk:=Nat.ne_of_gt h.glt;have go:=Nat.ne_of_gt (Nat.lt_trans h.glt s2);have bk:=Nat.ne_of_gt h.lt;have bo:=Nat.ne_of_gt (Nat.lt_trans h.lt s2);clear hb3 k3 hW hbw hb2 hC h0 h1 l1 hh hin hp1 hp2;generalize hsk:w.heap.size=B1 at *;generalize hso:w2.heap.size=B2 at *;clear hso;have Hsk:=zH hsk;clear hsk;obtain⟨j,hj⟩:∃j,i-1=j:=⟨_,rfl⟩;have hw3:IntKind.i64.wrap ((i:Int)-1)=(j:Int):=by have:=Hi.out;rw[zm _ (by omega) (by omega)];omega
   have hj2:(j:Int)<(N:Int):=by
    omega
   have hj1:(0:Int)<=(j:Int):=by omega
   have hjx:y*W+(x-1)=j:=by have:=Hi.out;omega
   have tgt:=C3.grid.cel (x-1) y (by omega) hy;rw[hjx] at tgt;have Hjx:=zH hjx;clear hjx hj;obtain⟨t0,t1,t2,t3,t4,t5,t6⟩:=tgt;have fr:=C3.grid.free;have q0:=C3.c0;have q2:=C3.c2;obtain⟨d0,d1,d2,d3,d4,d5,d6⟩:=o3;have lb:=C3.lt;have lg:=C3.glt;have ng1:g≠bc:=λe=>C3.ne e.symm;have ng2:g≠B2:=λe=>go e.symm;go_region_held3 (λw'=>w'.cell? ⟨bc,0,none⟩=some (.int .i64 W)/\w'.cell? ⟨bc,2,none⟩=some (.slice (some ⟨g,0,none⟩) N cap)/\w'.cell? ⟨B2,2,none⟩=some (.int .i64 (G x y).n.f)/\w'.cell? ⟨B2,3,none⟩=some (.int .i64 (G x y).n.b)/\w'.cell? ⟨B2,4,none⟩=some (.bool (G x y).n.bo)/\w'.cell? ⟨B2,5,none⟩=some (.bool (G x y).n.un)/\w'.cell? ⟨B2,6,none⟩=some (.bool (G x y).n.re)/\(w'.cell? ⟨g,j*7,none⟩).isSome=true/\(w'.cell? ⟨g,j*7+1,none⟩).isSome=true/\(w'.cell? ⟨g,j*7+2,none⟩).isSome=true/\(w'.cell? ⟨g,j*7+3,none⟩).isSome=true/\(w'.cell? ⟨g,j*7+4,none⟩).isSome=true/\(w'.cell? ⟨g,j*7+5,none⟩).isSome=true/\(w'.cell? ⟨g,j*7+6,none⟩).isSome=true/\(∀o,w'.frozen? ⟨g,o,none⟩=false)) (simp[*,World.cell?_setCell_far,ZZ]) (first|(go_at_call 95;refine(zaj (G x y).n _).mono ?_;rintro e w5 ⟨rfl,hb5⟩;have e1:=hb5.cells lb;have e2:=hb5.cells s3;have e3:=hb5.cells lg;have e4:=hb5.marks lg));have hb5:=zL hb5;have C5:Zp (put7 w5 g (j*7) (blk (G x y).n)) bc g cap W H N (upd G (x-1) y (blk (G x y).n)):=by
    have:=(C3.below hb5).put (x:=x-1) (y:=y) (by omega) hy (blk (G x y).n);rw[Hjx.out] at this;exact this
   have o5:zv (put7 w5 g (j*7) (blk (G x y).n)) B2 0 (G x y):=(zv.below ⟨d0,d1,d2,d3,d4,d5,d6⟩ hb5 s3).put go;have k5:zv (put7 w5 g (j*7) (blk (G x y).n)) B1 0 k:=(k4.below hb5 k4.lt).put gk;have K5:zd (λi=>i=g) w (put7 w5 g (j*7) (blk (G x y).n)):=(K3.thenBelow hb5).put7 _ _ _ (λ_=>rfl);generalize hW5:put7 w5 g (j*7) (blk (G x y).n)=W5 at *;unfold put7 at hW5;rw[hW5];rename_i hS;clear hS hW5 e1 e2 e3 e4 q0 q2 d0 d1 d2 d3 d4 d5 d6 t0 t1 t2 t3 t4 t5 t6 fr;have CC:=C5;have kk:=k5;have KK:=K5;have o51:=o5.2.1;rw[p1] at o51;go_wp2_with fail;have tg:=CC.grid.cel x y hx hy;rw[Hi.out] at tg;obtain⟨a0,a1,a2,a3,a4,a5,a6⟩:=tg;have fr2:=CC.grid.free;have z0:=CC.c0;have z2:=CC.c2;obtain⟨f0,f1,f2,f3,f4,f5,f6⟩:=kk;have ne1:g≠bc:=λe=>CC.ne e.symm;have ne2:g≠B1:=λe=>gk e.symm;go_region_held3 (λw'=>w'.cell? ⟨bc,0,none⟩=some (.int .i64 W)/\w'.cell? ⟨bc,2,none⟩=some (.slice (some ⟨g,0,none⟩) N cap)/\w'.cell? ⟨B1,0,none⟩=some (.int .i32 k.r)/\w'.cell? ⟨B1,1,none⟩=some (.int .i64 k.p)/\w'.cell? ⟨B1,2,none⟩=some (.int .i64 k.n.f)/\w'.cell? ⟨B1,3,none⟩=some (.int .i64 k.n.b)/\w'.cell? ⟨B1,4,none⟩=some (.bool k.n.bo)/\w'.cell? ⟨B1,5,none⟩=some (.bool k.n.un)/\w'.cell? ⟨B1,6,none⟩=some (.bool k.n.re)/\(w'.cell? ⟨g,i*7,none⟩).isSome=true/\(w'.cell? ⟨g,i*7+1,none⟩).isSome=true/\(w'.cell? ⟨g,i*7+2,none⟩).isSome=true/\(w'.cell? ⟨g,i*7+3,none⟩).isSome=true/\(w'.cell? ⟨g,i*7+4,none⟩).isSome=true/\(w'.cell? ⟨g,i*7+5,none⟩).isSome=true/\(w'.cell? ⟨g,i*7+6,none⟩).isSome=true/\(∀o,w'.frozen? ⟨g,o,none⟩=false)) (simp[*,World.cell?_setCell_far,ZZ]) (fail);go_wp2_with fail;go_end0;have CF:=CC.put hx hy k;rw[Hi.out] at CF;exact⟨rfl,CF.drew,(KK.put7 _ _ k (λ_=>rfl)).drew⟩
  ·rw[if_neg p1,if_neg p2];have P1:((G x y).p==1)=false:=by simpa using p1
   have P2:((G x y).p==2)=false:=by simpa using p2
   go_in;go_wp2_with fail;go_at_call 92;refine(zbQ bc W H x y _ ?_ ?_).mono ?_
   ·simp[go_sem,h0,l1]
   ·simp[go_sem,h1,l1]
   rintro e w' ⟨rfl,rfl⟩;go_wp2_with fail;go_at_call 94;refine(zeo bc g cap W H N G x y _ (h.below ((Below.refl _ _).alloc (Nat.le_refl _) _)) x0 x1 y0 y1).mono ?_;rintro e w2 ⟨rfl,hb2⟩;simp only[Int.toNat_natCast];go_wp2_with fail;have hb3:=((Below.refl _ _).alloc (Nat.le_refl _) _).trans (hb2.mono (by simp));have k3:zv w2 w.heap.size 0 k:=by
    obtain⟨hc,_⟩:=ziE hb2;refine⟨?_,?_,?_,?_,?_,?_,?_⟩<;>(rw[hc _ _ (by simp)];simp[go_sem])
   have s2:w.heap.size<w2.heap.size:=by have:=hb2.size;simp at this;omega
   generalize hW:w2.alloc _=W3;have hbw:Below w2.heap.size w2 W3:=by rw[←hW];exact(Below.refl _ _).alloc (Nat.le_refl _) _
   have o3:zv W3 w2.heap.size 0 (G x y):=by
    rw[←hW];refine⟨?_,?_,?_,?_,?_,?_,?_⟩<;>first|(simp[go_sem];done)|(simp[go_sem,p1];done)
   have s3:=o3.lt;have k4:zv W3 w.heap.size 0 k:=by
    obtain⟨hc,_⟩:=ziE hbw;obtain⟨a0,a1,a2,a3,a4,a5,a6⟩:=k3;refine⟨?_,?_,?_,?_,?_,?_,?_⟩<;>(rw[hc _ _ s2];assumption)
   have C3:=(h.below hb3).below hbw;have K3:zd (λi=>i=g) w W3:=zd.below _ (hb3.trans (hbw.mono (Nat.le_of_lt s2)));have gk:=Nat.ne_of_gt h.glt;have go:=Nat.ne_of_gt (Nat.lt_trans h.glt s2);have bk:=Nat.ne_of_gt h.lt;have bo:=Nat.ne_of_gt (Nat.lt_trans h.lt s2);clear hb3 k3 hW hbw hb2 hC h0 h1 l1 hh hin hp1 hp2;generalize hsk:w.heap.size=B1 at *;generalize hso:w2.heap.size=B2 at *;clear hso;have Hsk:=zH hsk;clear hsk;have CC:=C3;have kk:=k4;have KK:=K3;have tg:=CC.grid.cel x y hx hy;rw[Hi.out] at tg;obtain⟨a0,a1,a2,a3,a4,a5,a6⟩:=tg;have fr2:=CC.grid.free;have z0:=CC.c0;have z2:=CC.c2;obtain⟨f0,f1,f2,f3,f4,f5,f6⟩:=kk;have ne1:g≠bc:=λe=>CC.ne e.symm;have ne2:g≠B1:=λe=>gk e.symm;go_region_held3 (λw'=>w'.cell? ⟨bc,0,none⟩=some (.int .i64 W)/\w'.cell? ⟨bc,2,none⟩=some (.slice (some ⟨g,0,none⟩) N cap)/\w'.cell? ⟨B1,0,none⟩=some (.int .i32 k.r)/\w'.cell? ⟨B1,1,none⟩=some (.int .i64 k.p)/\w'.cell? ⟨B1,2,none⟩=some (.int .i64 k.n.f)/\w'.cell? ⟨B1,3,none⟩=some (.int .i64 k.n.b)/\w'.cell? ⟨B1,4,none⟩=some (.bool k.n.bo)/\w'.cell? ⟨B1,5,none⟩=some (.bool k.n.un)/\w'.cell? ⟨B1,6,none⟩=some (.bool k.n.re)/\(w'.cell? ⟨g,i*7,none⟩).isSome=true/\(w'.cell? ⟨g,i*7+1,none⟩).isSome=true/\(w'.cell? ⟨g,i*7+2,none⟩).isSome=true/\(w'.cell? ⟨g,i*7+3,none⟩).isSome=true/\(w'.cell? ⟨g,i*7+4,none⟩).isSome=true/\(w'.cell? ⟨g,i*7+5,none⟩).isSome=true/\(w'.cell? ⟨g,i*7+6,none⟩).isSome=true/\(∀o,w'.frozen? ⟨g,o,none⟩=false)) (simp[*,World.cell?_setCell_far,ZZ]) (fail);go_wp2_with fail;go_end0;have CF:=CC.put hx hy k;rw[Hi.out] at CF;exact⟨rfl,CF.drew,(KK.put7 _ _ k (λ_=>rfl)).drew⟩
end
namespace Wd
open Go.RowKit
theorem zkl (n a b:Int) (w:World):
 Calls Tryz.prog 189 #[.int .i32 n,.int .i32 a,.int .i32 b] w λe w'=>e=.returned (.bool (inB n a b))/\w'=w:=by
 by_cases h1:a<=n<;>by_cases h2:n<=b;all_goals
  go_in;go_wp2;go_ret;exact⟨by simp[inB,h1,h2],rfl⟩
theorem znL (n:Int) (w:World):
 Calls Tryz.prog 188 #[.int .i32 n] w λe w'=>e=.returned (.bool (validB n))/\w'=w:=by
 rcases zke n with⟨h1,h2,h3⟩|⟨h1,h2,h3⟩|⟨h1,h3⟩|⟨h1,h2,h3⟩|⟨h1,h3⟩;all_goals
  rw[h3];clear h3;go_in;go_wp2;go_ret;exact⟨by simp,rfl⟩
theorem zjx (n:Int) (w:World):
 Calls Tryz.prog 162 #[.int .i32 n] w λe w'=>e=.returned (.bool (zeroB n))/\w'=w:=by
 rcases zlN n with⟨h1,h3⟩|⟨h1,h2,h3⟩|⟨h1,h2,h4,h3⟩|⟨h1,h2,h4,h5,h3⟩|⟨h1,h2,h4,h5,h6,h3⟩|⟨h1,h2,h4,h5,h6,h3⟩;all_goals
  rw[h3];clear h3;go_in;go_wp2_with (first|(go_at_call 188;refine(znL _ _).mono ?_;rintro e w' ⟨rfl,rfl⟩)|(go_at_call 189;refine(zkl _ _ _ _).mono ?_;rintro e w' ⟨rfl,rfl⟩));go_ret;exact⟨by simp[*],rfl⟩
theorem ztV (n:Int) (w:World):
 Calls Tryz.prog 163 #[.int .i32 n] w λe w'=>e=.returned (.bool (za5 n))/\w'=w:=by
 rcases zlO n with⟨h0,hz⟩|⟨h0,h1,hz⟩|⟨h0,h1,h2,hz⟩|⟨h0,h1,h2,h3,hz⟩|⟨h0,h1,h2,h3,h4,hz⟩|⟨h0,h1,h2,h3,h4,h5,hz⟩|⟨h0,h1,h2,h3,h4,h5,h6,hz⟩|⟨h0,h1,h2,h3,h4,h5,h6,h7,hz⟩|⟨h0,h1,h2,h3,h4,h5,h6,h7,h8,hz⟩|⟨h0,h1,h2,h3,h4,h5,h6,h7,h8,hz⟩;all_goals
  rw[hz];clear hz;go_in;go_wp2_with (go_at_call 189;refine(zkl _ _ _ _).mono ?_;rintro e w' ⟨rfl,rfl⟩);go_ret;exact⟨by simp[*],rfl⟩
theorem lettersWidth (n:Int) (w:World):
 Calls Tryz.prog 129 #[.int .i32 n] w λe w'=>e=.returned (.int .i64 (wd n))/\w'=w:=by
 cases h1:zeroB n<;>cases h2:za5 n;all_goals
  go_in;go_wp2_with (first|(go_at_call 162;refine(zjx _ _).mono ?_;rintro e w' ⟨rfl,rfl⟩)|(go_at_call 163;refine(ztV _ _).mono ?_;rintro e w' ⟨rfl,rfl⟩));go_ret;exact⟨by simp[wd,h1,h2],rfl⟩
theorem zdp (n:Int) (w:World):
 Calls Tryz.prog 64 #[.int .i32 n] w λe w'=>e=.returned (.int .i64 (wd n))/\w'=w:=by
 go_in;go_wp2_with (go_at_call 129;refine(lettersWidth _ _).mono ?_;rintro e w' ⟨rfl,rfl⟩);go_ret;exact⟨rfl,rfl⟩
theorem refBetween (n a b:Int) (w:World):
 Calls Tryz.prog 86 #[.int .i64 n,.int .i64 a,.int .i64 b] w λe w'=>e=.returned (.bool (inB n a b))/\w'=w:=by
 by_cases h1:a<=n<;>by_cases h2:n<=b;all_goals
  go_in;go_wp2;go_ret;exact⟨by simp[inB,h1,h2],rfl⟩
def zT (j:Nat):Int:=[127,159,768,879,8203,8207,55296,57343].getD j 0
def wT (j:Nat):Int:=[4352,4447,11904,42191,44032,55203,63744,64255,65072,65103,65280,65376,65504,65510,127744,128591,131072,262141].getD j 0
theorem zvo (k:Nat) (h:k<4):ze5[k]?=some (zT (2*k),zT (2*k+1)):=by
 rcases(by omega:k=0\/k=1\/k=2\/k=3) with rfl|rfl|rfl|rfl<;>rfl
theorem zvp (k:Nat) (h:k<9):zgu[k]?=some (wT (2*k),wT (2*k+1)):=by
 rcases(by omega:k=0\/k=1\/k=2\/k=3\/k=4\/k=5\/k=6\/k=7\/k=8) with rfl|rfl|rfl|rfl|rfl|rfl|rfl|rfl|rfl<;>rfl
def ZY (w:World) (B:Nat):Prop:=(∀j,j<8->w.cell? ⟨B,j,none⟩=some (.int .i64 (zT j)))/\∀j,j<18->w.cell? ⟨B+1,j,none⟩=some (.int .i64 (wT j))
theorem znM (w:World):ZY (((w.alloc (.cells #[.int .i64 127,.int .i64 159,.int .i64 768,.int .i64 879,.int .i64 8203,.int .i64 8207,.int .i64 55296,.int .i64 57343] 3)).alloc (.cells #[.int .i64 4352,.int .i64 4447,.int .i64 11904,.int .i64 42191,.int .i64 44032,.int .i64 55203,.int .i64 63744,.int .i64 64255,.int .i64 65072,.int .i64 65103,.int .i64 65280,.int .i64 65376,.int .i64 65504,.int .i64 65510,.int .i64 127744,.int .i64 128591,.int .i64 131072,.int .i64 262141] 3))) w.heap.size:=by
 constructor
 ·intro j hj;rcases(by omega:j=0\/j=1\/j=2\/j=3\/j=4\/j=5\/j=6\/j=7) with rfl|rfl|rfl|rfl|rfl|rfl|rfl|rfl<;>simp[zT,go_sem]
 ·intro j hj;rcases(by omega:j=0\/j=1\/j=2\/j=3\/j=4\/j=5\/j=6\/j=7\/j=8\/j=9\/j=10\/j=11\/j=12\/j=13\/j=14\/j=15\/j=16\/j=17) with rfl|rfl|rfl|rfl|rfl|rfl|rfl|rfl|rfl|rfl|rfl|rfl|rfl|rfl|rfl|rfl|rfl|rfl<;>simp[wT,go_sem]
theorem ZY.drewN {w:World} {B:Nat} (h:ZY w B) (q:Nat):ZY (w.drewN q) B:=h
theorem refWidth (n:Int) (w:World) (hn1:-2147483648<=n) (hn2:n<=2147483647):
 Calls Tryz.prog 65 #[.int .i32 n] w λe w'=>e=.returned (.int .i64 (wd n))/\Below w.heap.size w w':=by
 by_cases h1:n<32
 ·have hz:wd n=0:=by simp[wd,zen,h1]
  rw[hz];clear hz;go_in;go_wp2;go_ret;exact⟨rfl,((Below.refl _ _).alloc (Nat.le_refl _) _).alloc (by simp) _⟩
 by_cases h2:1114111<n
 ·have hz:wd n=0:=by simp[wd,zen,h2]
  rw[hz];clear hz;go_in;go_wp2;go_ret;exact⟨rfl,((Below.refl _ _).alloc (Nat.le_refl _) _).alloc (by simp) _⟩
 have h1':32<=n:=by omega
 have h2':n<=1114111:=by omega
 clear h1 h2;go_in;go_wp2_with fail;go_loopw[6] (λi w'=>∃m:Nat,m<=8/\m%2=0/\i=.int .i64 m/\Hid (zem n (ze5.take (m/2))=false)/\ZY w' w.heap.size/\Below w.heap.size w w') (λi _=>8-(intOf i).toNat)
 case atStart=>exact⟨0,by omega,by omega,rfl,rfl,znM w,((Below.refl _ _).alloc (Nat.le_refl _) _).alloc (by simp) _⟩
 case round=>
  obtain⟨m,hm,hm2,rfl,hany,hT,hB⟩:=hrel;by_cases hk:m<8
  ·have hat:=zvo (m/2) (by omega);rw[show 2*(m/2)=m from by omega] at hat;have hc0:=hT.1 m (by omega);have hc1:=hT.1 (m+1) (by omega);have hm':(m:Int)+1<8:=by omega
   have Hm2:=zH hm2;clear hm2 hm;have Hat:=zH hat;clear hat;go_wp2_with fail;go_quiet ((go_at_call 86;exact Calls.quiet_of_same (refBetween _ _ _ _)));go_wp2_with fail
   ·have hw:=zrM n (zm5 n ze5 (m/2) _ _ Hat.out (by assumption));go_ret;exact⟨by rw[hw];rfl,hB.trans ⟨rfl,rfl,rfl,Nat.le_refl _,λ_ _=>rfl⟩⟩
   ·have hm2:=Hm2.out;have hst:=zkg n ze5 (m/2) _ _ Hat.out hany.out (by assumption);rw[show m/2+1=(m+2)/2 from by omega] at hst;exact⟨⟨m+2,by omega,by omega,by go_num,hst,hT.drewN _,hB.trans ⟨rfl,rfl,rfl,Nat.le_refl _,λ_ _=>rfl⟩⟩,by simp[intOf];omega⟩
  ·obtain rfl:m=8:=by omega
   have Hz:Hid (zem n ze5=false):=hany;clear hany hk hm hm2;go_wp2_with fail;go_loopw[8] (λi w'=>∃m:Nat,m<=18/\m%2=0/\i=.int .i64 m/\Hid (zem n (zgu.take (m/2))=false)/\ZY w' w.heap.size/\Below w.heap.size w w') (λi _=>18-(intOf i).toNat)
   case atStart=>exact⟨0,by omega,by omega,rfl,rfl,hT,hB⟩
   case round=>
    clear hT hB;obtain⟨m,hm,hm2,rfl,hany,hT,hB⟩:=hrel;by_cases hk:m<18
    ·have hat:=zvp (m/2) (by omega);rw[show 2*(m/2)=m from by omega] at hat;have hc0:=hT.2 m (by omega);have hc1:=hT.2 (m+1) (by omega);have hm':(m:Int)+1<18:=by omega
     have Hm2:=zH hm2;clear hm2 hm;have Hat:=zH hat;clear hat;go_wp2_with fail;go_quiet ((go_at_call 86;exact Calls.quiet_of_same (refBetween _ _ _ _)));go_wp2_with fail
     ·have hw:=ztQ n h1' h2' Hz.out (zm5 n zgu (m/2) _ _ Hat.out (by assumption));go_ret;exact⟨by rw[hw];rfl,hB.trans ⟨rfl,rfl,rfl,Nat.le_refl _,λ_ _=>rfl⟩⟩
     ·have hm2:=Hm2.out;have hst:=zkg n zgu (m/2) _ _ Hat.out hany.out (by assumption);rw[show m/2+1=(m+2)/2 from by omega] at hst;exact⟨⟨m+2,by omega,by omega,by go_num,hst,hT.drewN _,hB.trans ⟨rfl,rfl,rfl,Nat.le_refl _,λ_ _=>rfl⟩⟩,by simp[intOf];omega⟩
    ·obtain rfl:m=18:=by omega
     have hw:=zH<|ztR n h1' h2' Hz.out hany
     clear hany hk hm hm2;go_wp2_with fail;go_ret;exact⟨by rw[hw.out];rfl,hB⟩
end Wd
end Go.Proofs.YtjlfibhbfdckpaaGreatDoor
