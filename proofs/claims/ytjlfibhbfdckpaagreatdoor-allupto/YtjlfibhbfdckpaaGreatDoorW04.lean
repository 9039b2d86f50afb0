import Derived.Test.YtjlfibhbfdckpaaGreatDoorW03
namespace Go.Proofs.YtjlfibhbfdckpaaGreatDoor
set_option maxHeartbeats 64000000
set_option maxRecDepth 100000
section
open Go.RowKit
open Wd (wd)
attribute [local go_sem ↓] Go.wp_at_zero Go.wp_at_succ
theorem zm9 (bc g cap W H N:Nat) (G:Nat->Nat->zk) (x y:Nat) (k:zk) (w:World) (h:Zp w bc g cap W H N G) (hwf:Wf W H G) (hx:x<W) (hy:y<H):
 Calls Tryz.prog 137 #[.pointer (some ⟨bc,0,none⟩),.int .i64 x,.int .i64 y,k.agg] w λe w'=>e=.returned (.tuple #[])/\Zp w' bc g cap W H N (wrt G (pt x y) (λ_ _=>k))/\zd (λi=>i=g) w w' :=
 (zer bc g cap W H N G x y k w h (hwf.half x y)).mono λ_ _ ⟨h1,h2,h3⟩=>⟨h1,h2.congr (zeR hwf hx hy k),h3⟩
theorem zkm (bc g cap W H N:Nat) (G:Nat->Nat->zk) (f t:Int) (y:Nat) (n:Pn) (w:World) (h:Zp w bc g cap W H N G) (hwf:Wf W H G) (hy:y<H):
 Calls Tryz.prog 87 #[.pointer (some ⟨bc,0,none⟩),.int .i64 f,.int .i64 t,.int .i64 y,n.agg] w λe w'=>e=.returned (.tuple #[])/\Zp w' bc g cap W H N (wrt G (rg f t y) (λ_ _=>blk n))/\zd (λi=>i=g) w w':=by
 have gb:=h.glt;have w2:=h.w2;have Hh:=zH h;clear h;go_in;go_wp2_with fail;have hb0:Below w.heap.size w (w.alloc (.cells #[.int .i64 n.f,.int .i64 n.b,.bool n.bo,.bool n.un,.bool n.re] 33)):=(Below.refl _ _).alloc (Nat.le_refl _) _;go_loopw[10] (λi w'=>∃k:Nat,k<=W/\i=.int .i64 k/\Zp w' bc g cap W H N (wrt G (λa b=>rg f t y a b&&decide (a<k)) (λ_ _=>blk n))/\zd (λi=>i=g) w w'/\Zf w' w.heap.size 0 n) (λi _=>W-(intOf i).toNat)
 case atStart=>exact⟨0,by omega,rfl,by rw[zg2 _ _ _ (by simp)];exact Hh.out.below hb0,zd.below _ hb0,ZO _ _ _⟩
 case round=>
  obtain⟨k,hk,rfl,hC,hK,hP⟩:=hrel;have c0:=hC.c0;obtain⟨p0,p1,p2,p3,p4⟩:=hP;have hC':=zH hC;clear hC;have hnext:(∀a b,(rg f t y a b&&decide (a<k))=(rg f t y a b&&decide (a<k+1)))->Zp wr bc g cap W H N (wrt G (λa b=>rg f t y a b&&decide (a<k+1)) (λ_ _=>blk n)):=λe=>by rw[←zhg e];exact hC'.out
  have Hn:=zH hnext;clear hnext;by_cases hlt:k<W
  ·rcases(by omega:(k:Int)<f\/(f<=k/\t<=k)\/(f<=k/\(k:Int)<t)) with a1|⟨a1,a2⟩|⟨a1,a2⟩
   ·go_wp2_with fail;go_roundw
    case rel=>exact⟨k+1,by omega,by go_num,Hn.out (λa b=>by rw[Bool.eq_iff_iff];simp[rg];omega),hK,⟨p0,p1,p2,p3,p4⟩⟩
    case measure=>simp[intOf];omega
   ·go_wp2_with fail;go_roundw
    case rel=>exact⟨k+1,by omega,by go_num,Hn.out (λa b=>by rw[Bool.eq_iff_iff];simp[rg];omega),hK,⟨p0,p1,p2,p3,p4⟩⟩
    case measure=>simp[intOf];omega
   ·go_wp2_with fail;go_at_call 95;refine(zaj n _).mono ?_;rintro e w3 ⟨rfl,hb3⟩;have C3:=hC'.out.below hb3;have P3:=Zf.same ⟨p0,p1,p2,p3,p4⟩ (hb3.block _ (Zf.lt ⟨p0,p1,p2,p3,p4⟩));have K3:=hK.thenBelow hb3;clear hb3 p0 p1 p2 p3 p4 Hn hC';go_wp2_with fail;go_at_call 137;refine(zm9 bc g cap W H N _ k y (blk n) _ C3 (hwf.blk _ n) hlt hy).mono ?_;rintro e w4 ⟨rfl,C4,K4⟩;rw[zkh _ _ _ _ _ _ a1 a2] at C4;have P4:=P3.keep K4 (Nat.ne_of_gt gb);have K5:=K3.trans K4 (λ_ _ h=>h);clear C3 P3 K3 K4;go_wp2_with fail;go_roundw
    case rel=>exact⟨k+1,by omega,by go_num,C4,K5,P4⟩
    case measure=>simp[intOf];omega
  ·go_wp2_with fail;go_end0;refine⟨rfl,hC'.out.congr (λa b ha hb=>?_),hK⟩;exact zbm hwf (P:=λa b=>rg f t y a b&&decide (a<k)) (λa b ha hb=>by rw[Bool.eq_iff_iff];simp;omega) (λ_ _ _ _ _=>rfl) a b ha hb
theorem zkn (bc g cap W H N:Nat) (G:Nat->Nat->zk) (x y r:Int) (n:Pn) (w:World) (h:Zp w bc g cap W H N G) (hwf:Wf W H G)
 (x0:-100000<=x) (x1:x<=100000) (r0:-2147483648<=r) (r1:r<=2147483647):
 Calls Tryz.prog 83 #[.pointer (some ⟨bc,0,none⟩),.int .i64 x,.int .i64 y,.int .i32 r,n.agg] w λe w'=>e=.returned (.tuple #[])/\Zp w' bc g cap W H N (zR W H G x y r n)/\zd (λi=>i=g) w w':=by
 have gb:=h.glt;have hw2:=h.w2;have nle:=h.nle;have Hh:=zH h;clear h;by_cases hr:wd r=1
 ·have hq:(wd r==1)=true:=by simp[hr]
  have HG:Hid (zR W H G x y r n=setG W H G x y ⟨r,0,n⟩):=by unfold zR;exact if_pos hr
  clear hr;go_in;go_wp2_with fail;go_at_call 65;refine(Wd.refWidth r _ r0 r1).mono ?_;rintro e w1 ⟨rfl,hb1⟩;have hb:=((Below.refl _ _).alloc (Nat.le_refl _) _).trans (hb1.mono (by simp));have C1:=Hh.out.below hb;have P1:=(ZO w n _).same (hb1.block _ (by simp));have K1:zd (λi=>i=g) w w1:=zd.below _ hb;clear hb1 hb;obtain⟨p0,p1,p2,p3,p4⟩:=P1;go_wp2_with fail;go_at_call 137;refine(zer bc g cap W H N _ x y ⟨r,0,n⟩ _ C1 (hwf.half x y)).mono ?_;rintro e w2 ⟨rfl,C2,K2⟩;go_wp2_with fail;refine bodyPost_ret (v:=.tuple #[]) (by simp[results,Tryz.results83,go_sem]) rfl ⟨rfl,?_,K1.trans K2 (λ_ _ h=>h)⟩;rw[HG.out];exact C2
 ·have hq:(wd r==1)=false:=by simp[hr]
  have Hr:=zH hr;clear hr;have wf2:=hwf.setBlk x y n;cases i1:inG W H x y
  ·have HG:Hid (zR W H G x y r n=setG W H (setG W H G x y (blk n)) (x+1) y (blk n)):=by unfold zR;rw[if_neg Hr.out,if_neg (by simp[i1])];rfl
   go_in;go_wp2_with fail;go_at_call 65;refine(Wd.refWidth r _ r0 r1).mono ?_;rintro e w1 ⟨rfl,hb1⟩;have hb:=((Below.refl _ _).alloc (Nat.le_refl _) _).trans (hb1.mono (by simp));have C1:=Hh.out.below hb;have P1:=(ZO w n _).same (hb1.block _ (by simp));have K1:zd (λi=>i=g) w w1:=zd.below _ hb;clear hb1 hb;go_wp2_with fail;go_at_call 92;refine(zbQ bc W H x y _ C1.c0 C1.c1).mono ?_;rintro e w' ⟨rfl,rfl⟩;go_wp2_with fail;go_at_call 92;refine(zbQ bc W H (x+1) y _ C1.c0 C1.c1).mono ?_;rintro e w' ⟨rfl,rfl⟩;obtain⟨p0,p1,p2,p3,p4⟩:=P1;go_wp2_with fail;go_at_call 95;refine(zaj n _).mono ?_;rintro e w1b ⟨rfl,hb⟩;have C1b:=C1.below hb;have P1b:=Zf.same ⟨p0,p1,p2,p3,p4⟩ (hb.block _ (Zf.lt ⟨p0,p1,p2,p3,p4⟩));have K1b:=K1.thenBelow hb;clear hb p0 p1 p2 p3 p4;go_wp2_with fail;go_at_call 137;refine(zer bc g cap W H N _ x y (blk n) _ C1b (hwf.half _ _)).mono ?_;rintro e w2 ⟨rfl,C2,K1c⟩;have P2:=P1b.keep K1c (Nat.ne_of_gt gb);have K2:=K1b.trans K1c (λ_ _ h=>h);clear C1b P1b K1b K1c;obtain⟨p0,p1,p2,p3,p4⟩:=P2;go_wp2_with fail;go_at_call 95;refine(zaj n _).mono ?_;rintro e w2b ⟨rfl,hb⟩;have C2b:=C2.below hb;have P2b:=Zf.same ⟨p0,p1,p2,p3,p4⟩ (hb.block _ (Zf.lt ⟨p0,p1,p2,p3,p4⟩));have K2b:=K2.thenBelow hb;clear hb p0 p1 p2 p3 p4;go_wp2_with fail;go_at_call 137;refine(zer bc g cap W H N _ (x+1) y (blk n) _ C2b (wf2.half _ _)).mono ?_;rintro e w3 ⟨rfl,C3,K2c⟩;have P3:=P2b.keep K2c (Nat.ne_of_gt gb);have K3:=K2b.trans K2c (λ_ _ h=>h);clear C2b P2b K2b K2c;go_wp2_with fail;go_end0;refine⟨rfl,?_,K3⟩;rw[HG.out];exact C3
  ·cases i2:inG W H (x+1) y
   ·have HG:Hid (zR W H G x y r n=setG W H (setG W H G x y (blk n)) (x+1) y (blk n)):=by unfold zR;rw[if_neg Hr.out,if_neg (by simp[i2])];rfl
    go_in;go_wp2_with fail;go_at_call 65;refine(Wd.refWidth r _ r0 r1).mono ?_;rintro e w1 ⟨rfl,hb1⟩;have hb:=((Below.refl _ _).alloc (Nat.le_refl _) _).trans (hb1.mono (by simp));have C1:=Hh.out.below hb;have P1:=(ZO w n _).same (hb1.block _ (by simp));have K1:zd (λi=>i=g) w w1:=zd.below _ hb;clear hb1 hb;go_wp2_with fail;go_at_call 92;refine(zbQ bc W H x y _ C1.c0 C1.c1).mono ?_;rintro e w' ⟨rfl,rfl⟩;go_wp2_with fail;go_at_call 92;refine(zbQ bc W H (x+1) y _ C1.c0 C1.c1).mono ?_;rintro e w' ⟨rfl,rfl⟩;obtain⟨p0,p1,p2,p3,p4⟩:=P1;go_wp2_with fail;go_at_call 95;refine(zaj n _).mono ?_;rintro e w1b ⟨rfl,hb⟩;have C1b:=C1.below hb;have P1b:=Zf.same ⟨p0,p1,p2,p3,p4⟩ (hb.block _ (Zf.lt ⟨p0,p1,p2,p3,p4⟩));have K1b:=K1.thenBelow hb;clear hb p0 p1 p2 p3 p4;go_wp2_with fail;go_at_call 137;refine(zer bc g cap W H N _ x y (blk n) _ C1b (hwf.half _ _)).mono ?_;rintro e w2 ⟨rfl,C2,K1c⟩;have P2:=P1b.keep K1c (Nat.ne_of_gt gb);have K2:=K1b.trans K1c (λ_ _ h=>h);clear C1b P1b K1b K1c;obtain⟨p0,p1,p2,p3,p4⟩:=P2;go_wp2_with fail;go_at_call 95;refine(zaj n _).mono ?_;rintro e w2b ⟨rfl,hb⟩;have C2b:=C2.below hb;have P2b:=Zf.same ⟨p0,p1,p2,p3,p4⟩ (hb.block _ (Zf.lt ⟨p0,p1,p2,p3,p4⟩));have K2b:=K2.thenBelow hb;clear hb p0 p1 p2 p3 p4;go_wp2_with fail;go_at_call 137;refine(zer bc g cap W H N _ (x+1) y (blk n) _ C2b (wf2.half _ _)).mono ?_;rintro e w3 ⟨rfl,C3,K2c⟩;have P3:=P2b.keep K2c (Nat.ne_of_gt gb);have K3:=K2b.trans K2c (λ_ _ h=>h);clear C2b P2b K2b K2c;go_wp2_with fail;go_end0;refine⟨rfl,?_,K3⟩;rw[HG.out];exact C3
   ·obtain⟨a1,a2,a3,a4⟩:=zu.1 i1;obtain⟨b1,b2,b3,b4⟩:=zu.1 i2;obtain⟨x,rfl⟩:=Int.eq_ofNat_of_zero_le a1;obtain⟨y,rfl⟩:=Int.eq_ofNat_of_zero_le a3;have HG:Hid (zR W H G x y r n=upd (upd (setG W H (setG W H G x y (blk n)) (x+1) y (blk n)) x y ⟨r,1,n⟩) (x+1) y ⟨r,2,n⟩):=by unfold zR;rw[if_neg Hr.out,if_pos ⟨i1,i2⟩];rfl
    have HN:=zH Hh.out.hN;have hl:y*W+(x+1)<N:=by rw[HN.out];exact zas (by omega) (by omega)
    obtain⟨i,hi⟩:∃i,y*W+x=i:=⟨_,rfl⟩;obtain⟨m,hm⟩:∃m,y*W=m:=⟨_,rfl⟩;obtain⟨j,hj⟩:∃j,y*W+(x+1)=j:=⟨_,rfl⟩;have Hi:=zH hi;have Hj:=zH hj;rw[hj] at hl;rw[hm] at hi hj;have hv1:IntKind.i64.wrap ((y:Int)*(W:Int))=(m:Int):=by rw[←Int.natCast_mul,hm];exact zm _ (by omega) (by omega)
    have hv2:IntKind.i64.wrap ((m:Int)+(x:Int))=(i:Int):=by rw[zm _ (by omega) (by omega)];omega
    have hv3:IntKind.i64.wrap ((i:Int)+1)=(j:Int):=by rw[zm _ (by omega) (by omega)];omega
    have hi1:(0:Int)<=(i:Int):=by omega
    have hi2:(i:Int)<(N:Int):=by omega
    have hj1:(0:Int)<=(j:Int):=by omega
    have hj2:(j:Int)<(N:Int):=by omega
    clear hm hi hj;go_in;go_wp2_with fail;go_at_call 65;refine(Wd.refWidth r _ r0 r1).mono ?_;rintro e w1 ⟨rfl,hb1⟩;have hb:=((Below.refl _ _).alloc (Nat.le_refl _) _).trans (hb1.mono (by simp));have C1:=Hh.out.below hb;have P1:=(ZO w n _).same (hb1.block _ (by simp));have K1:zd (λi=>i=g) w w1:=zd.below _ hb;clear hb1 hb;go_wp2_with fail;go_at_call 92;refine(zbQ bc W H x y _ C1.c0 C1.c1).mono ?_;rintro e w' ⟨rfl,rfl⟩;go_wp2_with fail;go_at_call 92;refine(zbQ bc W H (x+1) y _ C1.c0 C1.c1).mono ?_;rintro e w' ⟨rfl,rfl⟩;obtain⟨p0,p1,p2,p3,p4⟩:=P1;go_wp2_with fail;go_at_call 95;refine(zaj n _).mono ?_;rintro e w1b ⟨rfl,hb⟩;have C1b:=C1.below hb;have P1b:=Zf.same ⟨p0,p1,p2,p3,p4⟩ (hb.block _ (Zf.lt ⟨p0,p1,p2,p3,p4⟩));have K1b:=K1.thenBelow hb;clear hb p0 p1 p2 p3 p4;go_wp2_with fail;go_at_call 137;refine(zer bc g cap W H N _ x y (blk n) _ C1b (hwf.half _ _)).mono ?_;rintro e w2 ⟨rfl,C2,K1c⟩;have P2:=P1b.keep K1c (Nat.ne_of_gt gb);have K2:=K1b.trans K1c (λ_ _ h=>h);clear C1b P1b K1b K1c;obtain⟨p0,p1,p2,p3,p4⟩:=P2;go_wp2_with fail;go_at_call 95;refine(zaj n _).mono ?_;rintro e w2b ⟨rfl,hb⟩;have C2b:=C2.below hb;have P2b:=Zf.same ⟨p0,p1,p2,p3,p4⟩ (hb.block _ (Zf.lt ⟨p0,p1,p2,p3,p4⟩));have K2b:=K2.thenBelow hb;clear hb p0 p1 p2 p3 p4;go_wp2_with fail;go_at_call 137;refine(zer bc g cap W H N _ (x+1) y (blk n) _ C2b (wf2.half _ _)).mono ?_;rintro e w3 ⟨rfl,C3,K2c⟩;have P3:=P2b.keep K2c (Nat.ne_of_gt gb);have K3:=K2b.trans K2c (λ_ _ h=>h);clear C2b P2b K2b K2c;clear C1 C2 K1 K2;go_wp2_with fail;have tg:=C3.grid.cel x y (by omega) (by omega);rw[Hi.out] at tg;obtain⟨t0,t1,t2,t3,t4,t5,t6⟩:=tg;have fr:=C3.grid.free;have z0:=C3.c0;have z2:=C3.c2;obtain⟨p0,p1,p2,p3,p4⟩:=P3;have ne1:g≠bc:=λe=>C3.ne e.symm;have ne2:=Nat.ne_of_lt gb;generalize w.heap.size=B1 at *;go_region_held3 (λw'=>w'.cell? ⟨bc,0,none⟩=some (.int .i64 W)/\w'.cell? ⟨bc,2,none⟩=some (.slice (some ⟨g,0,none⟩) N cap)/\w'.cell? ⟨B1,0,none⟩=some (.int .i64 n.f)/\w'.cell? ⟨B1,1,none⟩=some (.int .i64 n.b)/\w'.cell? ⟨B1,2,none⟩=some (.bool n.bo)/\w'.cell? ⟨B1,3,none⟩=some (.bool n.un)/\w'.cell? ⟨B1,4,none⟩=some (.bool n.re)/\(w'.cell? ⟨g,i*7,none⟩).isSome=true/\(w'.cell? ⟨g,i*7+1,none⟩).isSome=true/\(w'.cell? ⟨g,i*7+2,none⟩).isSome=true/\(w'.cell? ⟨g,i*7+3,none⟩).isSome=true/\(w'.cell? ⟨g,i*7+4,none⟩).isSome=true/\(w'.cell? ⟨g,i*7+5,none⟩).isSome=true/\(w'.cell? ⟨g,i*7+6,none⟩).isSome=true/\(∀o,w'.frozen? ⟨g,o,none⟩=false)) (simp[*,World.cell?_setCell_far,ZZ]) (fail);have C4:=C3.put (x:=x) (y:=y) (by omega) (by omega) (⟨r,1,n⟩:zk);rw[Hi.out] at C4;have P4:Zf (put7 w3 g (i*7) ⟨r,1,n⟩) B1 0 n:=Zf.same ⟨p0,p1,p2,p3,p4⟩ (zW _ _ _ _ _ ne2.symm);have K4:zd (λi=>i=g) w (put7 w3 g (i*7) ⟨r,1,n⟩):=K3.put7 _ _ _ (λ_=>rfl);generalize hW4:put7 w3 g (i*7) ⟨r,1,n⟩=w4 at *;unfold put7 at hW4;simp only at hW4;rw[hW4];rename_i hS;clear hS hW4 C3 K3 t0 t1 t2 t3 t4 t5 t6 fr z0 z2 p0 p1 p2 p3 p4;go_wp2_with fail;have tg:=C4.grid.cel (x+1) y (by omega) (by omega);rw[Hj.out] at tg;obtain⟨t0,t1,t2,t3,t4,t5,t6⟩:=tg;have fr:=C4.grid.free;have z0:=C4.c0;have z2:=C4.c2;obtain⟨p0,p1,p2,p3,p4⟩:=P4;have ne1:g≠bc:=λe=>C4.ne e.symm;go_region_held3 (λw'=>w'.cell? ⟨bc,0,none⟩=some (.int .i64 W)/\w'.cell? ⟨bc,2,none⟩=some (.slice (some ⟨g,0,none⟩) N cap)/\w'.cell? ⟨B1,0,none⟩=some (.int .i64 n.f)/\w'.cell? ⟨B1,1,none⟩=some (.int .i64 n.b)/\w'.cell? ⟨B1,2,none⟩=some (.bool n.bo)/\w'.cell? ⟨B1,3,none⟩=some (.bool n.un)/\w'.cell? ⟨B1,4,none⟩=some (.bool n.re)/\(w'.cell? ⟨g,j*7,none⟩).isSome=true/\(w'.cell? ⟨g,j*7+1,none⟩).isSome=true/\(w'.cell? ⟨g,j*7+2,none⟩).isSome=true/\(w'.cell? ⟨g,j*7+3,none⟩).isSome=true/\(w'.cell? ⟨g,j*7+4,none⟩).isSome=true/\(w'.cell? ⟨g,j*7+5,none⟩).isSome=true/\(w'.cell? ⟨g,j*7+6,none⟩).isSome=true/\(∀o,w'.frozen? ⟨g,o,none⟩=false)) (simp[*,World.cell?_setCell_far,ZZ]) (fail);have C5:=C4.put (x:=(x+1)) (y:=y) (by omega) (by omega) (⟨r,2,n⟩:zk);rw[Hj.out] at C5;have P5:Zf (put7 w4 g (j*7) ⟨r,2,n⟩) B1 0 n:=Zf.same ⟨p0,p1,p2,p3,p4⟩ (zW _ _ _ _ _ ne2.symm);have K5:zd (λi=>i=g) w (put7 w4 g (j*7) ⟨r,2,n⟩):=K4.put7 _ _ _ (λ_=>rfl);generalize hW5:put7 w4 g (j*7) ⟨r,2,n⟩=w5 at *;unfold put7 at hW5;simp only at hW5;rw[hW5];rename_i hS;clear hS hW5 C4 K4 t0 t1 t2 t3 t4 t5 t6 fr z0 z2 p0 p1 p2 p3 p4;go_wp2_with fail;refine bodyPost_ret (v:=.tuple #[]) (by simp[results,Tryz.results83,go_sem]) rfl ⟨rfl,?_,K5.drew.drew⟩;rw[HG.out];exact C5.drew.drew
theorem zbv (x y:Int) (w:World):
 Calls Tryz.prog 73 #[.int .i64 x,.int .i64 y] w λe w'=>e=.returned (.bool (ZC x y))/\w'=w:=by
 cases h1:Wd.inB x 1 40<;>cases h2:Wd.inB y 1 20;all_goals
  go_in;go_wp2_with (go_at_call 86;refine(Wd.refBetween _ _ _ _).mono ?_;rintro e w' ⟨rfl,rfl⟩);go_ret;exact⟨by simp[ZC,h1,h2],rfl⟩
theorem zjy (bs bc g cap N:Nat) (s:Rs) (w:World) (h:zi w bs bc g cap N s):
 Calls Tryz.prog 192 #[.pointer (some ⟨bs,0,none⟩)] w λe w'=>e=.returned (zS s).agg/\Below w.heap.size w w':=by
 have f7:=h.f7;have l:=h.lt;clear h;go_in;go_wp2;exact bodyPost_ret (v:=(zS s).agg) (by simp[results,Tryz.results192,go_sem,zS]) rfl ⟨rfl,(Below.refl _ _).alloc (Nat.le_refl _) _⟩
theorem zdU (bs bc g cap N:Nat) (s:Rs) (x y:Int) (w:World) (h:zi w bs bc g cap N s):
 Calls Tryz.prog 91 #[.pointer (some ⟨bs,0,none⟩),.int .i64 x,.int .i64 y] w λe w'=>e=.returned (.tuple #[])/\zi w' bs bc g cap N (ZQ s x y)/\zd (λi=>i=bs) w w':=by
 have f1:=h.f1;have f2:=h.f2;have f3:=h.f3;have f4:=h.f4;have f5:=h.f5;have fr:=h.free;have hw:=h.cels.w1;have hw2:=h.cels.w2;have hh:=h.cels.h1;have hh2:=h.cels.h2;have HR:=zH h;clear h;rcases(by omega:x<0\/(0<=x/\x<=(s.W:Int)-1)\/(0<=x/\(s.W:Int)-1<x)) with a1|⟨a1,a2⟩|⟨a1,a2⟩;all_goals rcases(by omega:y<0\/(0<=y/\y<=(s.H:Int)-1)\/(0<=y/\(s.H:Int)-1<y)) with b1|⟨b1,b2⟩|⟨b1,b2⟩
 all_goals
  have Hx:Hid (zap x s.W=if x<0 then 0 else if (s.W:Int)-1<x then(s.W:Int)-1 else x):=rfl;have Hy:Hid (zap y s.H=if y<0 then 0 else if (s.H:Int)-1<y then(s.H:Int)-1 else y):=rfl;go_in;go_wp2;go_end0;have ex:=Hx.out;have ey:=Hy.out;first|rw[if_pos a1] at ex|rw[if_neg (by omega),if_neg (by omega)] at ex|rw[if_neg (by omega),if_pos a2] at ex
  first|rw[if_pos b1] at ey|rw[if_neg (by omega),if_neg (by omega)] at ey|rw[if_neg (by omega),if_pos b2] at ey
  refine⟨rfl,?_,zpw _ _ _ _ _⟩;unfold ZQ;rw[ex,ey];exact HR.out.setXYP _ _
theorem zhk (bc g cap W H N:Nat) (G:Nat->Nat->zk) (top bot:Int) (n:Int) (p:Pn) (w:World) (h:Zp w bc g cap W H N G) (t0:0<=top) (b0:0<=bot) (hb:bot<H):
 Calls Tryz.prog 89 #[.pointer (some ⟨bc,0,none⟩),.int .i64 top,.int .i64 bot,.int .i64 n,p.agg] w λe w'=>∃g' cap',e=.returned (.tuple #[])/\Zp w' bc g' cap' W H N (zo top bot n p G)/\zd (λi=>i=bc) w w'/\w.heap.size<=g':=by
 obtain⟨top,rfl⟩:=Int.eq_ofNat_of_zero_le t0;obtain⟨bot,rfl⟩:=Int.eq_ofNat_of_zero_le b0;exact ziC bc g cap W H N G top bot n p w h (by omega)
theorem znN (bc g cap W H N:Nat) (G:Nat->Nat->zk) (f t:Int) (y:Int) (n:Pn) (w:World) (h:Zp w bc g cap W H N G) (hwf:Wf W H G) (y0:0<=y) (hy:y<H):
 Calls Tryz.prog 87 #[.pointer (some ⟨bc,0,none⟩),.int .i64 f,.int .i64 t,.int .i64 y,n.agg] w λe w'=>e=.returned (.tuple #[])/\Zp w' bc g cap W H N (wrt G (rg f t y.toNat) (λ_ _=>blk n))/\zd (λi=>i=g) w w':=by
 obtain⟨y,rfl⟩:=Int.eq_ofNat_of_zero_le y0;exact zkm bc g cap W H N G f t y n w h hwf (by omega)
theorem zaT {F:Nat->Prop} {w w':World} (h:zd F w w') {b:Nat} (hb:b<w.heap.size) (hF:¬F b):∀o,w'.cell? ⟨b,o,none⟩=w.cell? ⟨b,o,none⟩:=λo=>Zj (h.block b hb hF) o
theorem zgx (bs bc g cap N:Nat) (s:Rs) (w:World) (h:zi w bs bc g cap N s) (ok:Rs.Ok {s with pend:=false}):
 Calls Tryz.prog 190 #[.pointer (some ⟨bs,0,none⟩)] w (zac bs bc g w (zt s) (.tuple #[])):=by
 have f0:=h.f0;have f3:=h.f3;have f4:=h.f4;have f11:=h.f11;have f12:=h.f12;have HR:=zH h;have Hok:Hid (0<=s.top/\0<=s.bot/\s.bot<s.H):=⟨ok.t0,Int.le_trans ok.t0 ok.tb,ok.b1⟩;have y1:s.y<s.H:=ok.y1;have y0:0<=s.y:=ok.y0;have h2:s.H<=20:=ok.h2;clear h ok;by_cases hy:s.y=s.bot
 ·have hq:(s.y==s.bot)=true:=by simp[hy]
  have HL:Hid (zt s={s with G:=zo s.top s.bot 1 (zS s) s.G,pend:=false}):=by unfold zt;exact if_pos hy
  clear hy;go_in;go_wp2_with fail;go_quiet (fail);go_wp2_with fail;go_at_call 192;refine(zjy bs bc g cap N s _ (HR.out.drewN _)).mono ?_;rintro e w2 ⟨rfl,hb2⟩;have B2:Below w.heap.size w w2:=⟨hb2.os,hb2.tape,hb2.output,hb2.size,hb2.block⟩;have HR2:=zH<|HR.out.below B2
  have K2:zd (λi=>i=bs\/i=bc\/i=g) w w2:=zd.below _ B2;have sz2:=B2.size;clear hb2 B2 f0 f3 f4 f11 f12 HR;have g0:=HR2.out.f0;have g11:=HR2.out.f11;have g12:=HR2.out.f12;have l2:=HR2.out.lt;go_wp2_with fail;generalize hW3:w2.alloc _=w3;have B3:Below w2.heap.size w2 w3:=by rw[←hW3];exact(Below.refl _ _).alloc (Nat.le_refl _) _
  have P3:Zf w3 w2.heap.size 0 (zS s):=by rw[←hW3];exact ZO _ _ _
  have HR3:=zH<|HR2.out.below B3
  have K3:=K2.thenBelow B3;have sz3:=B3.size;have np:w2.heap.size≠bc:=by have:=HR2.out.cels.lt;omega
  generalize w2.heap.size=Bp at *;clear hW3 B3 HR2 K2 g0 g11 g12;have g0:=HR3.out.f0;have g11:=HR3.out.f11;have g12:=HR3.out.f12;have l3:=HR3.out.lt;have lp:=P3.lt;have nsc:=HR3.out.ne1;obtain⟨p0,p1,p2,p3,p4⟩:=P3;go_region_held3 (λw'=>w'.cell? ⟨bs,0,none⟩=some (.pointer (some ⟨bc,0,none⟩))/\w'.cell? ⟨bs,11,none⟩=some (.int .i64 s.top)/\w'.cell? ⟨bs,12,none⟩=some (.int .i64 s.bot)/\w'.cell? ⟨Bp,0,none⟩=some (.int .i64 (zS s).f)/\w'.cell? ⟨Bp,1,none⟩=some (.int .i64 (zS s).b)/\w'.cell? ⟨Bp,2,none⟩=some (.bool (zS s).bo)/\w'.cell? ⟨Bp,3,none⟩=some (.bool (zS s).un)/\w'.cell? ⟨Bp,4,none⟩=some (.bool (zS s).re)) (simp[*]) (first|(go_at_call 89;refine(zhk bc g cap s.W s.H N s.G s.top s.bot 1 (zS s) _ HR3.out.cels.drew Hok.out.1 Hok.out.2.1 Hok.out.2.2).mono ?_;rintro e w4 ⟨g4,cap4,rfl,C4,K4,hg4⟩;have e1:=zaT K4 l3 nsc;have e2:=zaT K4 lp np));have K4:zd (λi=>i=bc) w3 w4:=⟨K4.os,K4.tape,K4.output,K4.size,K4.block⟩;have R4:=HR3.out.cells {s with G:=zo s.top s.bot 1 (zS s) s.G} (K4.block _ l3 nsc) C4 rfl (by have:w3.heap.size<=g4:=hg4;omega);have K5:=K3.trans K4 (λi _ hi=>.inr (.inl hi));have hg5:w.heap.size<=g4:=by have:w3.heap.size<=g4:=hg4;omega
  have HR4:=zH R4;have q5:=R4.f5;have fr:=R4.free;rename_i hS;clear hS e1 e2 C4 K4 R4 g0 g11 g12 p0 p1 p2 p3 p4;go_wp2_with fail;have R9:zi (w4.setCell ⟨bs,5,none⟩ (.bool false)) bs bc g4 cap4 N (zt s):=by rw[HL.out];exact HR4.out.setPend false
  exact bodyPost_ret (v:=.tuple #[]) (by simp[results,Tryz.results190,go_sem]) rfl (Z5 R9 (K5.setCell ⟨bs,5,none⟩ _ (λ_=>.inl rfl)) (.inr hg5))
 ·have hq:(s.y==s.bot)=false:=by simp[hy]
  have HL:Hid (zt s=ZQ s s.x (s.y+1)):=by unfold zt;exact if_neg hy
  clear hy;go_in;go_wp2_with fail;go_quiet (fail);go_wp2_with fail;have HR2:=zH<|HR.out.drewN nq
  have K2:zd (λi=>i=bs\/i=bc\/i=g) w (w.drewN nq):=(zd.refl _ _).drewN nq;generalize w.drewN nq=w2 at *;clear f3 f4 f0 f11 f12;have f3:=HR2.out.f3;have f4:=HR2.out.f4;have HL2:=zH K2;clear K2 HR;have hwr:IntKind.i64.wrap (s.y+1)=s.y+1:=zm _ (by omega) (by omega);go_region_with (first|(go_at_call 91;refine(zdU bs bc g cap N s s.x (s.y+1) _ HR2.out.drew).mono ?_;rintro e w5 ⟨rfl,R5,K5⟩));all_goals
   have K6:=HL2.out.trans (⟨K5.os,K5.tape,K5.output,K5.size,K5.block⟩:zd (λi=>i=bs) w2 w5) (λi _ hi=>.inl hi);clear K5;go_wp2_with fail;go_end0;have R9:zi w5 bs bc g cap N (zt s):=by rw[HL.out];exact R5
   exact Z5 R9 K6 (.inl rfl)
end
section
def zdb (p:Pn) (n:Int):Pn:=
 if n=0 then Pn.plain else if n=1 then {p with bo:=true} else if n=22 then {p with bo:=false}
 else if n=4 then {p with un:=true} else if n=24 then {p with un:=false}
 else if n=7 then {p with re:=true} else if n=27 then {p with re:=false}
 else if n=39 then {p with f:=0} else if n=49 then {p with b:=0}
 else if 30<=n/\n<=37 then {p with f:=n-29} else if 40<=n/\n<=47 then {p with b:=n-39} else p
def zek (s:Rs) (n:Int):Rs:={s with pen:=zdb s.pen n}
theorem zi.setPen {w:World} {bs bc g cap N:Nat} {s:Rs} (h:zi w bs bc g cap N s) (n:Pn):zi (((((w.setCell ⟨bs,6,none⟩ (.int .i64 n.f)).setCell ⟨bs,7,none⟩ (.int .i64 n.b)).setCell ⟨bs,8,none⟩ (.bool n.bo)).setCell ⟨bs,9,none⟩ (.bool n.un)).setCell ⟨bs,10,none⟩ (.bool n.re)) bs bc g cap N {s with pen:=n} :=
 ((((h.store 6 _ {s with pen:={s.pen with f:=n.f} } rfl rfl rfl rfl).store 7 _ {s with pen:={s.pen with f:=n.f,b:=n.b} } rfl rfl rfl rfl).store 8 _ {s with pen:={s.pen with f:=n.f,b:=n.b,bo:=n.bo} } rfl rfl rfl rfl).store 9 _ {s with pen:={s.pen with f:=n.f,b:=n.b,bo:=n.bo,un:=n.un} } rfl rfl rfl rfl).store 10 _ {s with pen:=n} rfl rfl rfl rfl
theorem zpz {F:Nat->Prop} {w w':World} (h:zd F w w') (bs:Nat) (hF:F bs) (a b c d e:Value):zd F w (((((w'.setCell ⟨bs,6,none⟩ a).setCell ⟨bs,7,none⟩ b).setCell ⟨bs,8,none⟩ c).setCell ⟨bs,9,none⟩ d).setCell ⟨bs,10,none⟩ e):=
 ((((h.setCell ⟨bs,6,none⟩ a (λ_=>hF)).setCell ⟨bs,7,none⟩ b (λ_=>hF)).setCell ⟨bs,8,none⟩ c (λ_=>hF)).setCell ⟨bs,9,none⟩ d (λ_=>hF)).setCell ⟨bs,10,none⟩ e (λ_=>hF)
theorem zaN {w:World} {bs bc g cap N:Nat} {s:Rs} (h:zi w bs bc g cap N s) (n:Int) (pp:Pn) (hp:zdb s.pen n=pp) (arr:Array Value) (t:TypeId):
 zac bs bc g w (zek s n) (.tuple #[]) (.returned (.tuple #[])) ((((((w.setCell ⟨bs,6,none⟩ (.int .i64 pp.f)).setCell ⟨bs,7,none⟩ (.int .i64 pp.b)).setCell ⟨bs,8,none⟩ (.bool pp.bo)).setCell ⟨bs,9,none⟩ (.bool pp.un)).setCell ⟨bs,10,none⟩ (.bool pp.re)).alloc (.cells arr t)):=by
 have e:zek s n={s with pen:=pp}:=by unfold zek;rw[hp]
 rw[e];exact Z5 ((h.setPen pp).below ((Go.RowKit.Below.refl _ _).alloc (Nat.le_refl _) _)) ((zpz (zd.refl _ w) bs (.inl rfl) _ _ _ _ _).alloc _) (.inl rfl)
end
section
open Wd (wd)
def zct (how:Int) (all:Bool) (X Y:Int):Nat->Nat->Bool:=λa b=>
 (decide (how=2)||(decide (how=0)&&(decide (Y<b)||(decide ((b:Int)=Y)&&decide (X<=a))))||(decide (how=1)&&(decide ((b:Int)<Y)||(decide ((b:Int)=Y)&&decide ((a:Int)<=X)))))&&(all||decide ((b:Int)=Y))
def zbw (s:Rs) (how:Int) (all:Bool) (m:Nat):Nat->Nat->zk:=wrt s.G (λa b=>zct how all s.x s.y a b&&decide (b*s.W+a<m)) (λ_ _=>blk (zS s))
def zbS (s:Rs) (how:Int) (all:Bool):Rs:={s with G:=wrt s.G (zct how all s.x s.y) (λ_ _=>blk (zS s))}
theorem ztW {s:Rs} (hwf:Wf s.W s.H s.G) (how:Int) (all:Bool) {x y:Nat} (hx:x<s.W) (h:zct how all s.x s.y x y=false):ZX s.W s.H (zbw s how all (y*s.W+x)) (zbw s how all (y*s.W+x+1)):=by
 unfold zbw;refine zbm hwf (λa b ha hb=>?_) (λ_ _ _ _ _=>rfl);by_cases e:b*s.W+a=y*s.W+x
 ·obtain⟨rfl,rfl⟩:=zcb ha hx e;rw[h];rfl
 ·rw[Bool.eq_iff_iff];simp;intro _;omega
theorem zrP {s:Rs} (hwf:Wf s.W s.H s.G) (how:Int) (all:Bool) {x y:Nat} (hx:x<s.W) (h:zct how all s.x s.y x y=true):ZX s.W s.H (wrt (zbw s how all (y*s.W+x)) (pt x y) (λ_ _=>blk (zS s))) (zbw s how all (y*s.W+x+1)):=by
 unfold zbw;rw[zm6 _ _ _ _ _ (λ_ _ _ _=>rfl)];refine zbm hwf (λa b ha hb=>?_) (λa b _ _ _=>by simp);by_cases e:a=x/\b=y
 ·obtain⟨rfl,rfl⟩:=e;simp[h,pt]
 ·have e':b*s.W+a≠y*s.W+x:=λq=>e (zcb ha hx q);have hp:pt x y a b=false:=by
   cases hq:pt x y a b with
   |false=>rfl
   |true=>exact absurd (zcR.1 hq) e
  rw[hp,Bool.or_false,Bool.eq_iff_iff];simp;intro _;omega
theorem zrQ {s:Rs} (hwf:Wf s.W s.H s.G) (how:Int) (all:Bool):ZX s.W s.H (zbw s how all (s.H*s.W)) (zbS s how all).G:=by
 unfold zbw zbS;refine zbm hwf (λa b ha hb=>?_) (λ_ _ _ _ _=>rfl);have:=zas ha hb;simp[this]
theorem zpA (s:Rs) (how:Int) (all:Bool):zbw s how all 0=s.G:=by
 unfold zbw;exact zg2 _ _ _ (λa b=>by simp)
theorem ztX {s:Rs} (hwf:Wf s.W s.H s.G) (how:Int) (all:Bool) (m:Nat):Wf s.W s.H (zbw s how all m):=hwf.blk _ _
theorem Rs.Ok.era {s:Rs} (h:s.Ok) (how:Int) (all:Bool):(zbS s how all).Ok:=⟨h.w1,h.w2,h.h1,h.h2,h.x0,h.x1,h.y0,h.y1,h.t0,h.tb,h.b1,h.pd,h.wf.blk _ _⟩
end
end Go.Proofs.YtjlfibhbfdckpaaGreatDoor
