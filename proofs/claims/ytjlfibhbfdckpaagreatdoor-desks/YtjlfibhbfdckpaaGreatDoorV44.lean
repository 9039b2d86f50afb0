import Derived.Test.YtjlfibhbfdckpaaGreatDoorV40
namespace Go.Proofs.YtjlfibhbfdckpaaGreatDoor
set_option maxHeartbeats 64000000
set_option maxRecDepth 100000
section
open Wd (wd)
def zw2 (x y:Int):Wn:=⟨1,0,x,y,true,6,3,λ_ _=>blk Pn.plain⟩
def zw3 (v z:Int) (G:Nat->Nat->zk):Wn:=⟨2,1,v,z,true,4,2,G⟩
def zxe (x y v z:Int) (G:Nat->Nat->zk):List Wn:=[Zd 10 5,zw2 x y,zw3 v z G]
def zw4 (n:Int):Nat:=n.toNat
def zxf (x y v z:Int) (l:List Int) (p:Pn) (k i:Int):zk:=
 if (x<=k/\k<x+6/\y<=i/\i<y+3)/\i=y+z+1/\0<=k-x-v/\k-x-v<l.length then⟨l.getD (k-x-v).toNat 0,0,p⟩ else blk Pn.plain
def zxg (l:List Int) (p:Pn):Nat->Nat->zk:=λa b=>if b=1/\a<l.length then⟨l.getD a 0,0,p⟩ else blk Pn.plain
end
section
open Go.RowKit
attribute [local go_sem ↓] Go.wp_at_zero Go.wp_at_succ
def zei (c:Int) (n:Nat):Nat:=((if c<0 then -(c+1) else c)%n).toNat
theorem zfX (c:Int) {n:Nat} (h:0<n):zei c n<n:=by
 unfold zei;have:=Int.emod_lt_of_pos (if c<0 then -(c+1) else c) (show(0:Int)<n by omega);have:=Int.emod_nonneg (if c<0 then -(c+1) else c) (show(n:Int)≠0 by omega);omega
theorem zjn {c:Int} {n:Nat} (h:0<n) (hc:¬c<0):c.tmod n=zei c n:=by
 unfold zei;rw[if_neg hc,Int.toNat_of_nonneg (Int.emod_nonneg _ (by omega)),Int.tmod_eq_emod_of_nonneg (by omega)]
theorem zjo {c:Int} {n:Nat} (h:0<n) (hc:c<0):(-(c+1)).tmod n=zei c n:=by
 unfold zei;rw[if_pos hc,Int.toNat_of_nonneg (Int.emod_nonneg _ (by omega)),Int.tmod_eq_emod_of_nonneg (by omega)]
def zxj (p:Pn):Pn:={p with f:=zei p.f 9,b:=zei p.b 9}
def zxh:List Wn:=zY [Zd 2 1] 0 (λu=>{u with G:=writeAll 2 1 0 Pn.plain 0 (Zh ⟨#[97]⟩ 1 0) (Zd 2 1).G})
def zxi:Wn:={Zd 2 1 with G:=writeAll 2 1 0 Pn.plain 0 (Zh ⟨#[97]⟩ 1 0) (Zd 2 1).G}
def zxk (L:List Wn) (K:Nat) (r:Wn):Nat->Nat->zk:=λx y=>zcx L K r x y
theorem zs6:(Tryz.prog.info? 120).map (λi=>(i.zero,i.size,i.bytes))=some (some (.slice none 0 0),1,24):=by kernel_rfl
structure PcW (w:World) (m0 po W H:Nat) (lb:Nat->Nat) (P:Nat->Nat->zk) (y:Nat):Prop where
 po0:m0<=po
 plt:po<w.heap.size
 has:∀j,j<H->(w.cell? ⟨po,j,none⟩).isSome=true
 free:∀o,w.frozen? ⟨po,o,none⟩=false
 row:∀j,j<y->w.cell? ⟨po,j,none⟩=some (.slice (some ⟨lb j,0,none⟩) W W)
 cel:∀j x,j<y->x<W->zv w (lb j) (x*7) (P x j)
 ne:∀j,j<y->lb j≠po/\m0<=lb j/\lb j<w.heap.size
theorem PcW.keep {w w':World} {m0 po W H:Nat} {lb:Nat->Nat} {P:Nat->Nat->zk} {y:Nat} (h:PcW w m0 po W H lb P y) (hp:w'.heap[po]?=w.heap[po]?) (hl:∀j,j<y->w'.heap[lb j]?=w.heap[lb j]?) (hs:w.heap.size<=w'.heap.size):PcW w' m0 po W H lb P y:=
 ⟨h.po0,by have:=h.plt;omega,λj hj=>by rw[Zj hp];exact h.has j hj,λo=>by rw[za4 hp];exact h.free o,λj hj=>by rw[Zj hp];exact h.row j hj,λj x hj hx=>(h.cel j x hj hx).same (hl j hj),λj hj=>by have:=h.ne j hj;omega⟩
theorem PcW.below {w w':World} {m0 po W H:Nat} {lb:Nat->Nat} {P:Nat->Nat->zk} {y:Nat} (h:PcW w m0 po W H lb P y) (hb:Below w.heap.size w w'):PcW w' m0 po W H lb P y:=
 h.keep (hb.block _ h.plt) (λj hj=>hb.block _ (h.ne j hj).2.2) hb.size
theorem zpb (w:World) (n:Nat) (t:TypeId):∀j,j<n->(w.alloc (.cells (madeCells #[.slice none 0 0] (n*1)) t)).cell? ⟨w.heap.size,j,none⟩=some (.slice none 0 0):=by
 intro j hj;rw[za (zf w _)];unfold madeCells;rw[Array.getElem?_map,Array.getElem?_range,if_pos (by omega)];simp only[Option.map_some];rw[show j%(#[.slice none 0 0]:Array Value).size=0 by simp[Nat.mod_one]];rfl
def zmJ (P:Nat->Nat->zk) (y x:Nat):Nat->zk:=λi=>if i<x then P i y else⟨0,0,Pn.plain⟩
theorem zih {P:Program} (w wB:World) (b:Nat) {ops:Array Oper} {rest:List Oper} {o:Oper} {a:Act} {Q:Exit->Act->World->Prop}
 (hg:o.guard=none) (l c:Operand) (t:TypeId) (hop:o.op=Op.makeSlice t l c)
 (e:TypeId) (z:Value) (size bytes:Nat) (h1:P.underlying t=some (.slice e)) (h2:(P.info? e).map (λi=>(i.zero,i.size,i.bytes))=some (some z,size,bytes))
 (n:Nat) (hl:a.eval l=.int .i64 n) (hc:a.eval c=.int .i64 n) (hn:n<=800) (hb:bytes<=1000) (hw:w.alloc (.cells (madeCells z.cells (n*size)) e)=wB) (hbb:w.heap.size=b)
 (hK:wpList P ops Q rest (a.put o.dst (.slice (some ⟨b,0,none⟩) n n)) wB):wpList P ops Q (o::rest) a w:=by
 subst hw hbb;exact zcV w hg l c t hop e z size bytes h1 h2 n hl hc hn hb hK
theorem zpc (P:Nat->Nat->zk) (y:Nat):zmJ P y 0=λ_=>⟨0,0,Pn.plain⟩:=by funext i;unfold zmJ;rw[if_neg (by omega)]
theorem zrm (P:Nat->Nat->zk) (y x:Nat):zgU (zmJ P y x) x (P x y)=zmJ P y (x+1):=by
 funext i;unfold zgU zmJ;by_cases h:i=x
 ·subst h;rw[if_pos rfl,if_pos (by omega)]
 ·rw[if_neg h];by_cases h2:i<x
  ·rw[if_pos h2,if_pos (by omega)]
  ·rw[if_neg h2,if_neg (by omega)]
structure PcX (w:World) (m0 po b W H:Nat) (lb:Nat->Nat) (P:Nat->Nat->zk) (y x:Nat):Prop where
 pw:PcW w m0 po W H lb P y
 row:w.cell? ⟨po,y,none⟩=some (.slice (some ⟨b,0,none⟩) W W)
 fl:zay w b W (zmJ P y x)
 nb:b≠po/\m0<=b
 nl:∀j,j<y->b≠lb j
theorem PcX.below {w w':World} {m0 po b W H:Nat} {lb:Nat->Nat} {P:Nat->Nat->zk} {y x:Nat} (h:PcX w m0 po b W H lb P y x) (hx:1<=W) (hb:Below w.heap.size w w'):PcX w' m0 po b W H lb P y x:=
 ⟨h.pw.below hb,by rw[Zj (hb.block _ h.pw.plt)];exact h.row,h.fl.same (hb.block _ (h.fl.cel 0 hx).lt),h.nb,h.nl⟩
theorem PcX.put {w:World} {m0 po b W H:Nat} {lb:Nat->Nat} {P:Nat->Nat->zk} {y x:Nat} (h:PcX w m0 po b W H lb P y x) (hx:x<W):PcX (put7 w b (x*7) (P x y)) m0 po b W H lb P y (x+1):=by
 have e:=zW w b (x*7) po (P x y) (Ne.symm h.nb.1);exact⟨h.pw.keep e (λj hj=>zW _ _ _ _ _ (Ne.symm (h.nl j hj))) (by rw[zaJ];exact Nat.le_refl _),by rw[Zj e];exact h.row,by rw[←zrm];exact h.fl.put hx (P x y),h.nb,h.nl⟩
theorem zrn {M:Mm} {L:List Wn} {last:Int} {N:Nat} {s:Rs} {t:Pt} {rk:Int->Nat} {K:Nat} (T:ZR L rk K) (ok:ZK L last) (w:World) (h:zI w M L last N s t) (r:Wn) (hr:r∈L) (hr0:r.n=0):
 Calls Tryz.prog 124 #[.pointer (some ⟨M.t 1,0,none⟩)] w λe w'=>∃po lb,e=.returned (.slice (some ⟨po,0,none⟩) r.H r.H)/\PcM w' po lb (λ_=>r.W) r.W r.H (λx y=>zcx L K r x y)/\Below w.heap.size w w':=by
 have hw:=h.win r hr;have g0:=hw.gr;have f5:=hw.f5;rw[hr0] at g0 f5;have w1:=g0.w1;have w2:=g0.w2;have hh1:=g0.h1;have hh2:=g0.h2;have k0:w.cell? ⟨M.t 1,0,none⟩=some (.pointer (some ⟨M.b 0,0,none⟩)):=za h.b1 0;have HD:Hid (zI w M L last N s t/\ZR L rk K/\ZK L last/\r∈L/\r.n=0):=⟨h,T,ok,hr,hr0⟩;have HG:=zH g0;have z1:M.t 1<w.heap.size:=World.block_lt_of_cell? _ _ k0;have z2:M.b 0<w.heap.size:=World.block_lt_of_cell? _ _ f5;obtain⟨m0,hm0⟩:∃m0,w.heap.size=m0:=⟨_,rfl⟩;have Hm0:=zH hm0;obtain⟨P,hP⟩:∃P:Nat->Nat->zk,(λx y:Nat=>zcx L K r x y)=P:=⟨_,rfl⟩;have HP:=zH hP;rw[hP];clear hw g0 hP h T ok hr hr0 hm0;go_in;go_wp2_with fail;go_at_call 127;refine sM (zbF (M.c 0) (M.g 0) r.W r.H _ r.G w HG.out) ?_;go_wp2_with (at_make;go_must (refine zcV _ rfl _ _ 155 rfl 120 _ 1 24 Tryz.underlying155 zs6 r.H (by rfl) (by rfl) (by omega) (by omega) ?_));have hA:∃wA po,w.alloc (.cells (madeCells #[.slice none 0 0] (r.H*1)) 120)=wA/\w.heap.size=po/\PcW wA m0 po r.W r.H (λ_=>0) P 0/\Below w.heap.size w wA:=by
  refine⟨_,_,rfl,rfl,⟨Nat.le_of_eq Hm0.out.symm,by simp,λj hj=>by rw[zpb w r.H _ j hj];rfl,ze (zf _ _),λj hj=>absurd hj (Nat.not_lt_zero _),λj x hj=>absurd hj (Nat.not_lt_zero _),λj hj=>absurd hj (Nat.not_lt_zero _)⟩,(Below.refl _ _).alloc (Nat.le_refl _) _⟩
 obtain⟨wA,po,hwA,hpo,pA,belA⟩:=hA;try simp only[Nat.mul_one] at hwA
 rw[hwA];try rw[hpo]
 have HA:Hid (PcW wA m0 po r.W r.H (λ_=>0) P 0/\Below w.heap.size w wA):=⟨pA,belA⟩;clear hwA hpo pA belA k0 f5;go_loopw[17] (λvi wr=>∃y:Nat,vi=.int .i64 y/\y<=r.H/\(∃lb,PcW wr m0 po r.W r.H lb P y)/\Below w.heap.size w wr) (λvi _=>r.H-(intOf vi).toNat)
 case atStart=>exact⟨0,rfl,Nat.zero_le _,⟨_,HA.out.1⟩,HA.out.2⟩
 case round=>
  obtain⟨y,rfl,hy,⟨lb,hpw⟩,hbw⟩:=hrel;have HB:Hid (PcW wr m0 po r.W r.H lb P y/\Below w.heap.size w wr):=⟨hpw,hbw⟩;clear hpw hbw HA;by_cases hc:y<r.H
  ·have hc':(y:Int)<(r.H:Int):=by omega
   have k0:wr.cell? ⟨M.t 1,0,none⟩=some (.pointer (some ⟨M.b 0,0,none⟩)):=za (HD.out.1.below HB.out.2).b1 0;have f5:wr.cell? ⟨M.b 0,5,none⟩=some (.pointer (some ⟨M.c 0,0,none⟩)):=by
    have:=((HD.out.1.below HB.out.2).win r HD.out.2.2.2.1).f5;rw[HD.out.2.2.2.2] at this;exact this
   have Hy:=zH hc;clear hc hy;go_wp2_with fail;go_at_call 126;refine sM (zcC (M.c 0) (M.g 0) r.W r.H _ r.G wr (HG.out.below HB.out.2)) ?_;clear k0 f5;have hB:∃wB b,wr.alloc (.cells (madeCells #[.int .i32 0,.int .i64 0,.int .i64 0,.int .i64 0,.bool false,.bool false,.bool false] (r.W*7)) 38)=wB/\wr.heap.size=b/\zay wB b r.W (λ_=>⟨0,0,Pn.plain⟩)/\Below wr.heap.size wr wB/\wB.heap.size=b+1:=⟨_,_,rfl,rfl,ziG wr r.W _,(Below.refl _ _).alloc (Nat.le_refl _) _,by simp⟩;obtain⟨wB,b,hwB,hbb,fB,belB,zB⟩:=hB;have HW:Hid (wr.alloc (.cells (madeCells #[.int .i32 0,.int .i64 0,.int .i64 0,.int .i64 0,.bool false,.bool false,.bool false] (r.W*7)) 38)=wB/\wr.heap.size=b):=⟨hwB,hbb⟩;have HB2:Hid (PcW wB m0 po r.W r.H lb P y/\Below w.heap.size w wB/\zay wB b r.W (λ_=>⟨0,0,Pn.plain⟩)):=⟨HB.out.1.below belB,HB.out.2.trans (belB.mono HB.out.2.size),fB⟩;have Hbb:Hid (b≠po/\m0<=b/\∀j,j<y->b≠lb j):=by
    have h1:=HB.out.1.plt;have h2:=HB.out.2.size;have h3:=Hm0.out;refine⟨by omega,by omega,λj hj=>?_⟩;have:=(HB.out.1.ne j hj).2.2;omega
   obtain⟨v0,hv0⟩:=Option.isSome_iff_exists.1 (HB2.out.1.has y Hy.out);have fv:=HB2.out.1.free y;clear hwB hbb fB belB zB;go_wp2_with (at_make;go_must (refine zih _ wB b rfl _ _ 120 rfl 38 _ 7 40 Tryz.underlying120 zkr r.W (by rfl) (by rfl) (by omega) (by omega) HW.out.1 HW.out.2 ?_));have hC:∃wC,wB.setCell ⟨po,y,none⟩ (.slice (some ⟨b,0,none⟩) r.W r.W)=wC/\PcX wC m0 po b r.W r.H lb P y 0/\Below w.heap.size w wC:=by
    have k:=(zd.refl (λi=>i=po) wB).setCell ⟨po,y,none⟩ (.slice (some ⟨b,0,none⟩) r.W r.W) (λ_=>rfl);obtain⟨q1,q2,q3⟩:=HB2.out;obtain⟨n1,n2,n3⟩:=Hbb.out;have hself:(wB.setCell ⟨po,y,none⟩ (.slice (some ⟨b,0,none⟩) r.W r.W)).cell? ⟨po,y,none⟩=some (.slice (some ⟨b,0,none⟩) r.W r.W):=zcp _ _ _ _ _ hv0;have hfar:∀j,j≠y->(wB.setCell ⟨po,y,none⟩ (.slice (some ⟨b,0,none⟩) r.W r.W)).cell? ⟨po,j,none⟩=wB.cell? ⟨po,j,none⟩:=λj hj=>zF _ _ _ _ _ hj;refine⟨_,rfl,⟨⟨q1.po0,by rw[zbA];exact q1.plt,λj hj=>?_,λo=>by rw[zdS];exact q1.free o,λj hj=>by rw[hfar j (by omega)];exact q1.row j hj,λj x hj hx=>(q1.cel j x hj hx).same (k.block _ (q1.ne j hj).2.2 (q1.ne j hj).1),λj hj=>by rw[zbA];exact q1.ne j hj⟩,hself,by rw[zpc];exact q3.same (k.block _ (q3.cel 0 (by omega)).lt n1),⟨n1,n2⟩,n3⟩,?_⟩
    ·by_cases e:j=y
     ·rw[e,hself];rfl
     ·rw[hfar j e];exact q1.has j hj
    ·exact q2.trans (k.toBelow q2.size (λi hi e=>by have:=q1.po0;have:=Hm0.out;omega))
   obtain⟨wC,hwC,pC,belC⟩:=hC;rw[hwC];have HC:Hid (PcX wC m0 po b r.W r.H lb P y 0/\Below w.heap.size w wC):=⟨pC,belC⟩;clear hwC pC belC hv0 fv HB2 HW HB;go_loopw[37] (λvi wi=>∃x:Nat,vi=.int .i64 x/\x<=r.W/\PcX wi m0 po b r.W r.H lb P y x/\Below w.heap.size w wi) (λvi _=>r.W-(intOf vi).toNat)
   case atStart=>exact⟨0,rfl,Nat.zero_le _,HC.out.1,HC.out.2⟩
   case round=>
    obtain⟨x,rfl,hx,hpx,hbi⟩:=hrel;have HBi:Hid (PcX wr m0 po b r.W r.H lb P y x/\Below w.heap.size w wr):=⟨hpx,hbi⟩;clear hpx hbi HC;by_cases hxc:x<r.W
    ·have hxc':(x:Int)<(r.W:Int):=by omega
     have Hx:=zH hxc;have q2:=HBi.out.1.row;have lg:=HBi.out.1.pw.plt;obtain⟨t0,t1,t2,t3,t4,t5,t6⟩:=HBi.out.1.fl.cel x hxc;have lb2:b<wr.heap.size:=World.block_lt_of_cell? _ _ t0;have fr:=HBi.out.1.fl.free;have nb1:=HBi.out.1.nb.1;have nb2:=Ne.symm nb1;clear hxc hx;go_wp2_with fail;go_region_held3 (λw'=>w'.cell? ⟨po,y,none⟩=some (.slice (some ⟨b,0,none⟩) r.W r.W)/\(w'.cell? ⟨b,x*7,none⟩).isSome=true/\(w'.cell? ⟨b,x*7+1,none⟩).isSome=true/\(w'.cell? ⟨b,x*7+2,none⟩).isSome=true/\(w'.cell? ⟨b,x*7+3,none⟩).isSome=true/\(w'.cell? ⟨b,x*7+4,none⟩).isSome=true/\(w'.cell? ⟨b,x*7+5,none⟩).isSome=true/\(w'.cell? ⟨b,x*7+6,none⟩).isSome=true/\(∀o,w'.frozen? ⟨b,o,none⟩=false)) (simp[*,World.cell?_setCell_far,ZZ]) (first|(go_at_call 43;refine(ztA HD.out.2.1 HD.out.2.2.1 _ (HD.out.1.below (by first|exact HBi.out.2|exact HBi.out.2.drew)) r HD.out.2.2.2.1 HD.out.2.2.2.2 x y Hx.out Hy.out (P x y) (by rw[←HP.out])).mono ?_;rintro e w5 ⟨rfl,hb5⟩;have e1:=hb5.cells lg;have e3:=hb5.cells lb2;have e4:=hb5.marks lb2));have hb6:=zL hb5;have hE:∃wE,put7 w5 b (x*7) (P x y)=wE/\PcX wE m0 po b r.W r.H lb P y (x+1)/\Below w.heap.size w wE:=by
      have px:=(HBi.out.1.below w1 hb6).put Hx.out;refine⟨_,rfl,px,?_⟩;have bb:=HBi.out.2.trans (hb6.mono HBi.out.2.size);exact bb.trans (((zd.refl (λi=>i=b) w5).put7 b (x*7) (P x y) (λ_=>rfl)).toBelow bb.size (λi hi e=>by have:=Hbb.out.2.1;have:=Hm0.out;omega))
     obtain⟨wE,hwE,pE,belE⟩:=hE;unfold put7 at hwE;rw[hwE];have HE:Hid (PcX wE m0 po b r.W r.H lb P y (x+1)/\Below w.heap.size w wE):=⟨pE,belE⟩;rename_i hS;clear hS hwE pE belE e1 e3 e4 q2 t0 t1 t2 t3 t4 t5 t6 fr hb5 hb6;go_wp2_with fail;go_roundw
     case rel=>exact⟨x+1,by go_num,by have:=Hx.out;omega,HE.out.1,HE.out.2⟩
     case measure=>simp[intOf];have:=Hx.out;omega
    ·have hxc':¬((x:Int)<(r.W:Int)):=by omega
     have ex:x=r.W:=by omega
     have Hex:=zH ex;clear ex hxc hx;have Hnx:Hid (PcW wr m0 po r.W r.H (λj=>if j=y then b else lb j) P (y+1)):=by
      obtain⟨q1,q2,q3,q4,q5⟩:=HBi.out.1;refine⟨q1.po0,q1.plt,q1.has,q1.free,λj hj=>?_,λj a hj ha=>?_,λj hj=>?_⟩
      ·by_cases e:j=y
       ·simp only[e,if_true];exact q2
       ·simp only[e,if_false];exact q1.row j (by omega)
      ·by_cases e:j=y
       ·have:=q3.cel a ha;unfold zmJ at this;rw[if_pos (by rw[Hex.out];exact ha)] at this;simp only[e,if_true];exact this
       ·simp only[e,if_false];exact q1.cel j a (by omega) ha
      ·by_cases e:j=y
       ·simp only[e,if_true];exact⟨q4.1,q4.2,(q3.cel 0 (by omega)).lt⟩
       ·simp only[e,if_false];exact q1.ne j (by omega)
     go_wp2_with fail;go_roundw
     case rel=>exact⟨y+1,by go_num,by have:=Hy.out;omega,⟨_,Hnx.out⟩,HBi.out.2⟩
     case measure=>simp[intOf];have:=Hy.out;omega
  ·have hc':¬((y:Int)<(r.H:Int)):=by omega
   have ey:y=r.H:=by omega
   have Hey:=zH ey;clear ey hc hy;go_wp2_with fail;go_ret;refine⟨po,rfl,⟨lb,⟨λj hj=>HB.out.1.row j (by rw[Hey.out];exact hj),λ_ _=>Nat.le_refl _,λj x hj hx=>HB.out.1.cel j x (by rw[Hey.out];exact hj) hx⟩⟩,HB.out.2⟩
end
end Go.Proofs.YtjlfibhbfdckpaaGreatDoor
