import Derived.Test.YtjlfibhbfdckpaaGreatDoorV13
import Derived.Test.YtjlfibhbfdckpaaGreatDoorV43
import Derived.Test.YtjlfibhbfdckpaaGreatDoorV45
namespace Go.Proofs.YtjlfibhbfdckpaaGreatDoor
set_option maxHeartbeats 64000000
set_option maxRecDepth 100000
section
open Go.RowKit
attribute [local go_sem ↓] Go.wp_at_zero Go.wp_at_succ
structure zpi (w:World) (R:Rm) (L:List Wn) (last:Int) (bs bc g cap N:Nat) (q:Rs):Prop where
 y:Zq w R L last
 z:zi w bs bc g cap N q
theorem zpi.below {w w':World} {R:Rm} {L:List Wn} {last:Int} {bs bc g cap N:Nat} {q:Rs} (h:zpi w R L last bs bc g cap N q) (hb:Below w.heap.size w w'):zpi w' R L last bs bc g cap N q:=
 ⟨h.y.keep (zd.below (λ_=>False) hb) (λ_ _ f=>f),h.z.below hb⟩
theorem znH {L:List Wn} {rk:Int->Nat} {K:Nat} (T:ZR L rk K) {r:Wn} (hr:r∈L) (h0:r.n=0):L[0]?=some r:=by
 obtain⟨a,t,e,e0,_,_⟩:=T.head;have ha:a∈L:=by rw[e];exact List.mem_cons_self
 have:=zak T.nd ha hr (by rw[e0,h0]);rw[e,←this];rfl
theorem zuW {R:Rm} {L:List Wn} {last:Int} {rk:Int->Nat} {K:Nat} (px:Option Addr) (bs bc g cap N:Nat) (q:Rs) (w:World) (h:zpi w R L last bs bc g cap N q) (T:ZR L rk K) (ok:ZK L last) (r:Wn) (hr:r∈L) (hr0:r.n=0) (eW:r.W=q.W) (eH:r.H=q.H) (qo:q.Ok) (P:Nat->Nat->zk) (hP:(λx y:Nat=>zcx L K r x y)=P):
 Calls Tryz.prog 71 #[.agg #[.pointer px,.pointer (some ⟨R.d,0,none⟩),.pointer (some ⟨bs,0,none⟩)]] w λe w'=>∃c:Nat,e=.returned (.int .i64 c)/\(c<=800/\(c=q.H*q.W\/∃n:Int,-(q.H:Int)<=n/\n<=q.H/\c=ZA q P n))/\Below w.heap.size w w':=by
 have HH:=zH h;have HD:Hid (ZR L rk K/\ZK L last/\L[0]?=some r/\r.W=q.W/\r.H=q.H/\(λx y:Nat=>zcx L K r x y)=P):=⟨T,ok,znH T hr hr0,eW,eH,hP⟩;have w1:=qo.w1;have w2:=qo.w2;have hH1:=qo.h1;have hH:=qo.h2;have hmul:=Nat.mul_le_mul hH w2;have Hcnt:Hid (∀n i,za0 (zbz q P n) i<=i):=λn=>zd7 _;obtain⟨pr,hpr⟩:∃pr,q.W*q.H=pr:=⟨_,rfl⟩;have hpr8:pr<=800:=by rw[←hpr,Nat.mul_comm];exact hmul
 have hpri:(q.W:Int)*(q.H:Int)=(pr:Int):=by rw[←hpr];push_cast;rfl
 have epr:IntKind.i64.wrap ((q.W:Int)*(q.H:Int))=(pr:Int):=by rw[hpri];exact zm _ (by omega) (by omega)
 have Hpr:Hid (pr=q.H*q.W):=by rw[←hpr];exact Nat.mul_comm _ _
 obtain⟨blk0,hblk0⟩:∃c,blk Pn.plain=c:=⟨_,rfl⟩;have Hblk:=zH hblk0;have Hbk7:Hid ((.int .i32 32:Value)=.int .i32 blk0.r/\(.int .i64 0:Value)=.int .i64 blk0.p/\(.int .i64 0:Value)=.int .i64 blk0.n.f/\(.int .i64 0:Value)=.int .i64 blk0.n.b/\(.bool false:Value)=.bool blk0.n.bo/\(.bool false:Value)=.bool blk0.n.un/\(.bool false:Value)=.bool blk0.n.re):=by rw[←hblk0];exact⟨rfl,rfl,rfl,rfl,rfl,rfl,rfl⟩
 clear h T ok hr hr0 eW eH qo hP hblk0 hpr;go_in;go_wp2_with fail;have hA:∃wA A,w.alloc (.cells #[.pointer px,.pointer (some ⟨R.d,0,none⟩),.pointer (some ⟨bs,0,none⟩)] 28)=wA/\w.heap.size=A/\Below w.heap.size w wA/\wA.cell? ⟨A,1,none⟩=some (.pointer (some ⟨R.d,0,none⟩))/\wA.cell? ⟨A,2,none⟩=some (.pointer (some ⟨bs,0,none⟩)):=⟨_,_,rfl,rfl,(Below.refl _ _).alloc (Nat.le_refl _) _,za (zf _ _) 1,za (zf _ _) 2⟩;obtain⟨wA,A,hwA,hAA,belA,cA1,cA2⟩:=hA;rw[hwA];try rw[hAA]
 have zA:A<wA.heap.size:=World.block_lt_of_cell? _ _ cA1;have HA:Hid (Below w.heap.size w wA/\wA.cell? ⟨A,1,none⟩=some (.pointer (some ⟨R.d,0,none⟩))/\wA.cell? ⟨A,2,none⟩=some (.pointer (some ⟨bs,0,none⟩))):=⟨belA,cA1,cA2⟩;clear hwA hAA belA cA1 cA2;go_at_call 69;refine(zfH bs bc g cap N q wA (HH.out.below HA.out.1).z).mono ?_;rintro e wS ⟨rfl,hbS⟩;have HS:=zH hbS;clear hbS;go_upto_region 2 with fail
 have hB:∃wB B,wS.alloc (.cells #[.int .i64 q.W,.int .i64 q.H,.int .i64 q.x,.int .i64 q.y,.bool q.pend,.int .i64 q.pen.f,.int .i64 q.pen.b,.bool q.pen.bo,.bool q.pen.un,.bool q.pen.re,.int .i64 q.top,.int .i64 q.bot,.bool (zat q)] 59)=wB/\wS.heap.size=B/\Below wS.heap.size wS wB/\wB.cell? ⟨B,0,none⟩=some (.int .i64 q.W)/\wB.cell? ⟨B,1,none⟩=some (.int .i64 q.H):=⟨_,_,rfl,rfl,(Below.refl _ _).alloc (Nat.le_refl _) _,za (zf _ _) 0,za (zf _ _) 1⟩;obtain⟨wB,B,hwB,hBB,belB,cW,cH⟩:=hB;rw[hwB];try rw[hBB]
 have zB:B<wB.heap.size:=World.block_lt_of_cell? _ _ cW;have HB:Hid (Below w.heap.size w wB/\wB.cell? ⟨B,0,none⟩=some (.int .i64 q.W)/\wB.cell? ⟨B,1,none⟩=some (.int .i64 q.H)/\wB.cell? ⟨A,1,none⟩=some (.pointer (some ⟨R.d,0,none⟩))/\wB.cell? ⟨A,2,none⟩=some (.pointer (some ⟨bs,0,none⟩))/\A<wB.heap.size):=by
  have b1:=HS.out.trans (belB.mono HS.out.size);exact⟨HA.out.1.trans (b1.mono HA.out.1.size),cW,cH,(b1.cells zA 1).trans HA.out.2.1,(b1.cells zA 2).trans HA.out.2.2,Nat.lt_of_lt_of_le zA b1.size⟩
 have zA2:=HB.out.2.2.2.2.2;clear hwB hBB belB HS HA zA;go_wp2_with fail;go_loopw[5,4] (λvn vl wr=>∃(n:Int) (c:Nat),vn=.int .i64 n/\1-(q.H:Int)<=n/\n<=q.H/\vl=.int .i64 c/\(c<=800/\(c=q.H*q.W\/∃n:Int,-(q.H:Int)<=n/\n<=q.H/\c=ZA q P n))/\Below wB.heap.size wB wr) (λvn _ _=>((q.H:Int)-intOf vn).toNat)
 case atStart=>exact⟨1-(q.H:Int),pr,rfl,by omega,by omega,rfl,⟨hpr8,.inl Hpr.out⟩,Below.refl _ _⟩
 case round=>
  obtain⟨n,c,rfl,hn1,hn2,rfl,hcc,hbw⟩:=hrel;have Hcc:=zH hcc;have hc8:=hcc.1;have HBw:=zH hbw;have cH:=(hbw.cells zB 1).trans HB.out.2.2.1;clear hbw hcc cW;by_cases hc:n<q.H
  ·have Hn:Hid (1-(q.H:Int)<=n/\n<q.H):=⟨hn1,hc⟩;go_wp2_with fail;go_loopw[7,6] (λvi vs wi=>∃y:Nat,vi=.int .i64 y/\y<=q.H/\vs=.int .i64 (za0 (zbz q P n) (y*q.W):Nat)/\Below wB.heap.size wB wi) (λvi _ _=>q.H-(intOf vi).toNat)
   case atStart=>exact⟨0,rfl,Nat.zero_le _,by simp[za0],HBw.out⟩
   case round=>
    obtain⟨y,rfl,hy,rfl,hbi⟩:=hrel;have HBy:=zH hbi;clear cH;have cH:=(hbi.cells zB 1).trans HB.out.2.2.1;clear hbi;by_cases hyc:y<q.H
    ·have hyc':(y:Int)<(q.H:Int):=by omega
     go_wp2_with fail;go_loopw[8,6] (λvi vs wi=>∃x:Nat,vi=.int .i64 x/\x<=q.W/\vs=.int .i64 (za0 (zbz q P n) (y*q.W+x):Nat)/\Below wB.heap.size wB wi) (λvi _ _=>q.W-(intOf vi).toNat)
     case atStart=>exact⟨0,rfl,Nat.zero_le _,rfl,HBy.out⟩
     case round=>
      obtain⟨x,rfl,hx,rfl,hbx⟩:=hrel;have HBx:=zH hbx;have HWx:=zH<|HB.out.1.trans (hbx.mono HB.out.1.size)
      have cW:=(hbx.cells zB 0).trans HB.out.2.1;have cA1:=(hbx.cells zA2 1).trans HB.out.2.2.2.1;have cA2:=(hbx.cells zA2 2).trans HB.out.2.2.2.2.1;have zAr:=Nat.lt_of_lt_of_le zA2 hbx.size;have hyW:y*q.W+q.W<=q.H*q.W:=by rw[←Nat.succ_mul];exact Nat.mul_le_mul_right _ hyc
      clear hbx cH;by_cases hxc:x<q.W
      ·have hxc':(x:Int)<(q.W:Int):=by omega
       have hcl:=Hcnt.out n (y*q.W+x);have Hnx:Hid (za0 (zbz q P n) (y*q.W+(x+1))=za0 (zbz q P n) (y*q.W+x)+(if (!(zcz q x ((y:Int)+n)).eqB (P x y))=true then 1 else 0)):=by
        show _=_;rw[←Nat.add_assoc,zii,zlB q P n hxc]
       obtain⟨sm,hsm⟩:∃sm,za0 (zbz q P n) (y*q.W+x)=sm:=⟨_,rfl⟩;have hsl:sm<=800:=by omega
       rw[hsm] at Hnx ⊢;have Hyx:Hid (y<q.H/\x<q.W):=⟨hyc,hxc⟩;have hyu:(y:Int)<=20:=by omega
       have hnl:(-20:Int)<=n:=by omega
       have hnu:n<=(20:Int):=by omega
       clear hcl hsm hyW hx hy hyc hxc hn1 hn2 hc hc8;go_wp2_with fail;go_at_call 70;cases hin:inG q.W q.H x ((y:Int)+n) with
       |true=>
        obtain⟨i0,i1,i2,i3⟩:=zu.1 hin;obtain⟨yy,hyy⟩:=Int.eq_ofNat_of_zero_le i2;have hyy':=hyy;have Hcr:Hid (zcz q x ((y:Int)+n)=q.G x yy):=by
         show _=_;unfold zcz;rw[if_pos hin,hyy',Int.toNat_natCast]
        refine(zd2 bs bc g cap N q x ((y:Int)+n) wr (HH.out.below HWx.out).z hin).mono ?_;rintro e w3 ⟨rfl,hb3⟩;rw[hyy',Int.toNat_natCast,Int.toNat_natCast];obtain⟨ca,hca⟩:∃ca,q.G x yy=ca:=⟨_,rfl⟩;rw[hca] at Hcr ⊢;clear hca hin hyy hyy' i0 i1 i2 i3;have cA1':=(hb3.cells zAr 1).trans cA1;have zA3:=Nat.lt_of_lt_of_le zAr hb3.size;have H3:=zH hb3;clear hb3 cA2 cW cA1;have cA1:=cA1';go_wp2_with fail;obtain⟨w4,hw4,bel4,c4,z4,f4⟩:=zbE w3 ca _ rfl;rw[hw4];obtain⟨D,hD⟩:∃D,w3.heap.size=D:=⟨_,rfl⟩;rw[hD] at c4 z4 f4;try rw[hD]
        have H4:Hid (Below wr.heap.size wr w4/\zv w4 D 0 ca/\(∀o,w4.frozen? ⟨D,o,none⟩=false)):=⟨H3.out.trans (bel4.mono H3.out.size),c4,f4⟩;clear hw4 bel4 c4 f4;go_at_call 39;refine(zhC HD.out.1 HD.out.2.1 w4 (HH.out.below (HWx.out.trans (H4.out.1.mono HWx.out.size))).y r HD.out.2.2.1 x y (zu.2 (by have:=Hyx.out;rw[HD.out.2.2.2.1,HD.out.2.2.2.2.1];omega))).mono ?_;rintro e w5 ⟨rfl,hb5⟩;have hcb:=congrFun (congrFun HD.out.2.2.2.2.2 x) y;rw[hcb];have H5:Hid (Below wr.heap.size wr w5/\zv w5 D 0 ca/\(∀o,w5.frozen? ⟨D,o,none⟩=false)):=⟨H4.out.1.trans (hb5.mono H4.out.1.size),H4.out.2.1.below hb5 H4.out.2.1.lt,λo=>(za4 (hb5.block D H4.out.2.1.lt) o).trans (H4.out.2.2 o)⟩;have z5:D<w5.heap.size:=by have:=hb5.size;omega
        have HDD:=zH hD;clear hb5 hcb H4 z4 cA1 hD;go_upto_region 15 with fail
        obtain⟨w6,hw6,bel6,c6,z6,_⟩:=zbE w5 (P x y) _ rfl;rw[hw6];obtain⟨E,hE⟩:∃E,w5.heap.size=E:=⟨_,rfl⟩;rw[hE] at c6 z6;try rw[hE]
        have hDE:D<E:=by omega
        have H6:Hid (Below wr.heap.size wr w6/\zv w6 D 0 ca/\zv w6 E 0 (P x y)/\(∀o,w6.frozen? ⟨D,o,none⟩=false)/\wr.heap.size<=D):=⟨H5.out.1.trans (bel6.mono H5.out.1.size),H5.out.2.1.below bel6 z5,c6,λo=>(za4 (bel6.block D z5) o).trans (H5.out.2.2 o),by have:=H3.out.size;have:=HDD.out;omega⟩;clear hw6 bel6 c6 hE H5 z6 z5;obtain⟨p0,p1,p2,p3,p4,p5,p6⟩:=H6.out.2.1;obtain⟨q0,q1,q2,q3,q4,q5,q6⟩:=H6.out.2.2.1;simp only[Nat.zero_add] at p0 p1 p2 p3 p4 p5 p6 q0 q1 q2 q3 q4 q5 q6;have hne:=λw=>zcO ca (P x y) w;cases hq:ca.eqB (P x y) with
        |true=>
         have Hq:=zH hq;simp only[hq,Bool.not_true] at hne;clear hq;go_wp2_with fail;go_roundw
         case rel=>exact⟨x+1,by go_num,by have:=Hyx.out.2;omega,by rw[Hnx.out,Hcr.out,Hq.out];rfl,HBx.out.trans (H6.out.1.mono HBx.out.size)⟩
         case measure=>simp[intOf];have:=Hyx.out.2;omega
        |false=>
         have Hq:=zH hq;simp only[hq,Bool.not_false] at hne;clear hq;go_wp2_with fail;go_roundw
         case rel=>exact⟨x+1,by go_num,by have:=Hyx.out.2;omega,by rw[Hnx.out,Hcr.out,Hq.out];rfl,HBx.out.trans (H6.out.1.mono HBx.out.size)⟩
         case measure=>simp[intOf];have:=Hyx.out.2;omega
       |false=>
        have Hcr:Hid (zcz q x ((y:Int)+n)=blk0):=by
         show _=_;unfold zcz;rw[if_neg (by rw[hin];decide),Hblk.out]
        refine(ziV bs bc g cap N q x ((y:Int)+n) wr (HH.out.below HWx.out).z hin).mono ?_;rintro e w3 ⟨rfl,hb3⟩;clear hin;have cA1':=(hb3.cells zAr 1).trans cA1;have zA3:=Nat.lt_of_lt_of_le zAr hb3.size;have H3:=zH hb3;clear hb3 cA2 cW cA1;have cA1:=cA1';go_wp2_with fail;obtain⟨w4,hw4,bel4,c4,z4,f4⟩:=zbE w3 zbR _ rfl;rw[hw4];obtain⟨D,hD⟩:∃D,w3.heap.size=D:=⟨_,rfl⟩;rw[hD] at c4 z4 f4;try rw[hD]
        have H4:Hid (Below wr.heap.size wr w4/\zv w4 D 0 zbR/\(∀o,w4.frozen? ⟨D,o,none⟩=false)):=⟨H3.out.trans (bel4.mono H3.out.size),c4,f4⟩;clear hw4 bel4 c4 f4;go_at_call 39;refine(zhC HD.out.1 HD.out.2.1 w4 (HH.out.below (HWx.out.trans (H4.out.1.mono HWx.out.size))).y r HD.out.2.2.1 x y (zu.2 (by have:=Hyx.out;rw[HD.out.2.2.2.1,HD.out.2.2.2.2.1];omega))).mono ?_;rintro e w5 ⟨rfl,hb5⟩;have hcb:=congrFun (congrFun HD.out.2.2.2.2.2 x) y;rw[hcb];have H5:Hid (Below wr.heap.size wr w5/\zv w5 D 0 zbR/\(∀o,w5.frozen? ⟨D,o,none⟩=false)):=⟨H4.out.1.trans (hb5.mono H4.out.1.size),H4.out.2.1.below hb5 H4.out.2.1.lt,λo=>(za4 (hb5.block D H4.out.2.1.lt) o).trans (H4.out.2.2 o)⟩;have z5:D<w5.heap.size:=by have:=hb5.size;omega
        have HDD:=zH hD;clear hb5 hcb H4 z4 cA1 hD;go_upto_region 15 with fail
        obtain⟨w6,hw6,bel6,c6,z6,_⟩:=zbE w5 (P x y) _ rfl;rw[hw6];obtain⟨E,hE⟩:∃E,w5.heap.size=E:=⟨_,rfl⟩;rw[hE] at c6 z6;try rw[hE]
        have hDE:D<E:=by omega
        have H6:Hid (Below wr.heap.size wr w6/\zv w6 D 0 zbR/\zv w6 E 0 (P x y)/\(∀o,w6.frozen? ⟨D,o,none⟩=false)/\wr.heap.size<=D):=⟨H5.out.1.trans (bel6.mono H5.out.1.size),H5.out.2.1.below bel6 z5,c6,λo=>(za4 (bel6.block D z5) o).trans (H5.out.2.2 o),by have:=H3.out.size;have:=HDD.out;omega⟩;clear hw6 bel6 c6 hE H5 z6 z5;have f0:=H6.out.2.2.2.1;obtain⟨p0,p1,p2,p3,p4,p5,p6⟩:=H6.out.2.1;simp only[Nat.zero_add] at p0 p1 p2 p3 p4 p5 p6;go_upto_region 17 with fail
        have hX:∃w7,((((((w6.setCell ⟨D,0,none⟩ (.int .i32 32)).setCell ⟨D,1,none⟩ (.int .i64 0)).setCell ⟨D,2,none⟩ (.int .i64 0)).setCell ⟨D,3,none⟩ (.int .i64 0)).setCell ⟨D,4,none⟩ (.bool false)).setCell ⟨D,5,none⟩ (.bool false)).setCell ⟨D,6,none⟩ (.bool false)=w7/\zv w7 D 0 blk0/\zv w7 E 0 (P x y)/\Below wr.heap.size wr w7:=by
         refine⟨put7 w6 D 0 (blk Pn.plain),rfl,?_,H6.out.2.2.1.put (by omega),?_⟩
         ·rw[←Hblk.out];exact zai H6.out.2.1
         ·exact H6.out.1.trans (((zd.refl (λi=>i=D) w6).put7 D 0 (blk Pn.plain) (λ_=>rfl)).toBelow H6.out.1.size (λi hi e=>by have:=H6.out.2.2.2.2;omega))
        obtain⟨w7,hw7,cD,cE,bel7⟩:=hX;rw[hw7];have H7:=zH bel7;clear p0 p1 p2 p3 p4 p5 p6 f0 hw7 bel7;obtain⟨p0,p1,p2,p3,p4,p5,p6⟩:=cD;obtain⟨q0,q1,q2,q3,q4,q5,q6⟩:=cE;simp only[Nat.zero_add] at p0 p1 p2 p3 p4 p5 p6 q0 q1 q2 q3 q4 q5 q6;have hne:=λw=>zcO blk0 (P x y) w;cases hq:blk0.eqB (P x y) with
        |true=>
         have Hq:=zH hq;simp only[hq,Bool.not_true] at hne;clear hq;go_wp2_with fail;go_roundw
         case rel=>exact⟨x+1,by go_num,by have:=Hyx.out.2;omega,by rw[Hnx.out,Hcr.out,Hq.out];rfl,HBx.out.trans (H7.out.mono HBx.out.size)⟩
         case measure=>simp[intOf];have:=Hyx.out.2;omega
        |false=>
         have Hq:=zH hq;simp only[hq,Bool.not_false] at hne;clear hq;go_wp2_with fail;go_roundw
         case rel=>exact⟨x+1,by go_num,by have:=Hyx.out.2;omega,by rw[Hnx.out,Hcr.out,Hq.out];rfl,HBx.out.trans (H7.out.mono HBx.out.size)⟩
         case measure=>simp[intOf];have:=Hyx.out.2;omega
      ·have hxc':¬((x:Int)<(q.W:Int)):=by omega
       have ex:x=q.W:=by omega
       have Hex:=zH ex;have Hy:=zH hyc;clear ex;go_wp2_with fail;go_roundw
       case rel=>exact⟨y+1,by go_num,by have:=Hy.out;omega,by rw[Hex.out,Nat.succ_mul],HBx.out⟩
       case measure=>simp[intOf];have:=Hy.out;omega
    ·have hyc':¬((y:Int)<(q.H:Int)):=by omega
     have ey:y=q.H:=by omega
     have Hk:Hid (za0 (zbz q P n) (y*q.W)=ZA q P n):=by rw[ey];rfl
     have hk8:=Hcnt.out n (y*q.W);rw[ey] at hk8;have hk9:ZA q P n<=800:=Nat.le_trans hk8 hmul;rw[Hk.out];obtain⟨on,hon⟩:∃on,ZA q P n=on:=⟨_,rfl⟩;have Hon:=zH hon;rw[hon] at hk9 ⊢;clear hk8 ey hon hy hyc;by_cases hlt:on<c
     ·have hlt':(on:Int)<(c:Int):=by omega
      clear hlt;go_wp2_with fail;go_roundw
      case rel=>exact⟨n+1,on,by go_num,by have:=Hn.out;omega,by have:=Hn.out;omega,rfl,⟨hk9,.inr ⟨n,by have:=Hn.out;omega,by have:=Hn.out;omega,Hon.out.symm⟩⟩,HBy.out⟩
      case measure=>simp[intOf];have:=Hn.out;omega
     ·have hlt':¬((on:Int)<(c:Int)):=by omega
      clear hlt;go_wp2_with fail;go_roundw
      case rel=>exact⟨n+1,c,by go_num,by have:=Hn.out;omega,by have:=Hn.out;omega,rfl,Hcc.out,HBy.out⟩
      case measure=>simp[intOf];have:=Hn.out;omega
  ·have HZ:=zH<|HB.out.1.trans (HBw.out.mono HB.out.1.size)
   go_wp2_with fail;go_ret;exact⟨c,rfl,Hcc.out,HZ.out⟩
end
section
set_option maxRecDepth 100000
open Go.RowKit
def DvI (D:Dv):Prop:=D.s=D.q/\Tie D.s.B D.t/\zj9 D.L D.q
def oI (O:Option Dv):Prop:=match O with
 |none=>True
 |some D=>DvI D
def zbu (w:World) (O:Option Dv) (x y s:Option Addr) (e:Ending) (w':World):Prop:=
 ∃O',e=.returned (.bool true)/\OAt w' O' x y s/\oI O'/\zd (zdr O) w w'/\(∀i,zdr O' i->zdr O i\/w.heap.size<=i)/\zcG O'<=zcG O+1
theorem ZP.opostI {w w':World} {D D':Dv} (h:ZP w D D' w') (hi:DvI D') (hl:D'.last<=D.last+1):zbu w (some D) D.xp D.yp D.sp (.returned (.bool true)) w' :=
 ⟨some D',rfl,⟨h.xp.symm,h.yp.symm,h.sp.symm,h.dv⟩,hi,h.keep,h.own,hl⟩
theorem zfx {w w':World} (b:Below w.heap.size w w'):zbu w none none none none (.returned (.bool true)) w' :=
 ⟨none,rfl,⟨rfl,rfl,rfl⟩,trivial,zd.below _ b,λ_ hi=>hi.elim,by show(0:Int)<=0+1;omega⟩
theorem zgQ {w w':World} {O:Option Dv} {x y s:Option Addr} (h:OAt w O x y s) (hi:oI O) (b:Below w.heap.size w w'):zbu w O x y s (.returned (.bool true)) w' :=
 ⟨O,rfl,h.below b,hi,zd.below _ b,λ_ hi=>.inl hi,by omega⟩
theorem Tt.pair {fx fy:Nat} {a:Option Addr->Array Value} {L':List Wn} {last':Int} {r:Value} {c:Int} {f:Rs->Rs} {w:World} {D:Dv} (h:zc2 w D) (T:Tt fx fy a D.L D.last L' last' r c f):
 zb0 fx fy a D.xp D.yp w r D.own λw2=>∃D',D'.L=L'/\D'.last=last'/\(D'.s=f D.s/\D'.t=D.t/\D'.q=D.q)/\ZP w D D' w2:=by
 refine(T.x w D.M D.N D.s D.t h.so h.x).mono ?_;rintro e w1 ⟨M',N',rfl,D1,t1,k1,o1⟩;have so:=T.so D.s h.so;refine⟨rfl,k1.mono (λi hi=>.inl hi),?_⟩;have y1:=h.y.keep k1 (λi hi hx=>h.xy i hx hi);refine(T.y w1 D.R y1).mono ?_;rintro e w2 ⟨R',rfl,D2,d2,k2,o2⟩;have s1:=k1.size;have hM:∀i,M'.own L' i->i<w1.heap.size:=λi hi=>D1.lt hi;have hR:∀i,D.R.own D.L i->i<w.heap.size:=λi hi=>h.y.lt hi;have hz:∀i,(i=D.bs\/i=D.bc\/i=D.g)->i<w.heap.size:=λi hi=>h.lt (.inr (.inr hi));have xyM:∀i,M'.own L' i->¬D.R.own D.L i:=λi hi hr=>by
  rcases o1 i hi with e|e
  ·exact h.xy i e hr
  ·have:=hR i hr;omega
 have kk:zd D.own w w2:=(k1.mono (λi hi=>.inl hi)).trans k2 (λi _ hi=>.inr (.inl hi));refine⟨rfl,kk,⟨M',N',f D.s,D.t,R',L',last',D.bs,D.bc,D.g,D.cap,D.n,D.q⟩,rfl,rfl,⟨rfl,rfl,rfl⟩,⟨?_,?_,?_,T.ok,so,h.qo,?_,?_,?_,?_⟩,?_,?_,rfl,kk,?_⟩
 ·exact D1.keep' k2 (λi hi=>xyM i hi)
 ·exact D2
 ·have z1:=h.z.same (k1.block _ h.z.lt (λe=>h.xz _ e (.inl rfl))) (k1.block _ h.z.cels.lt (λe=>h.xz _ e (.inr (.inl rfl)))) (k1.block _ h.z.cels.glt (λe=>h.xz _ e (.inr (.inr rfl))));exact z1.same (k2.block _ z1.lt (λe=>h.yz _ e (.inl rfl))) (k2.block _ z1.cels.lt (λe=>h.yz _ e (.inr (.inl rfl)))) (k2.block _ z1.cels.glt (λe=>h.yz _ e (.inr (.inr rfl))))
 ·have:=h.l0;have:=T.le.1;show 0<=last';omega
 ·intro i hi hr;rcases o2 i hr with e|e
  ·exact xyM i hi e
  ·have:=hM i hi;omega
 ·intro i hi hs;rcases o1 i hi with e|e
  ·exact h.xz i e hs
  ·have:=hz i hs;omega
 ·intro i hi hs;rcases o2 i hi with e|e
  ·exact h.yz i e hs
  ·have:=hz i hs;omega
 ·show some _=some _;rw[t1]
 ·show some _=some _;rw[d2]
 ·rintro i (hi|hi|hi)
  ·rcases o1 i hi with e|e
   ·exact .inl (.inl e)
   ·exact .inr e
  ·rcases o2 i hi with e|e
   ·exact .inl (.inr (.inl e))
   ·exact .inr (by omega)
  ·exact .inl (.inr (.inr hi))
theorem Tt.both {fx fy:Nat} {a:Option Addr->Array Value} {L':List Wn} {last':Int} {r:Value} {c:Int} {w:World} {D:Dv} (h:zc2 w D) (hi:DvI D) (T:Tt fx fy a D.L D.last L' last' r c id) (wA:World) (b:Below w.heap.size w wA):zb0 fx fy a D.xp D.yp wA r D.own λw2=>∃D',D'.last=last'/\DvI D'/\ZP wA D D' w2:=by
 refine Calls.mono (T.pair (h.below b)) ?_;rintro e w1 ⟨rfl,k1,hy⟩;refine⟨rfl,k1,hy.mono ?_⟩;rintro e w2 ⟨rfl,k2,D',e1,e2,⟨e3,e4,e5⟩,P⟩;refine⟨rfl,k2,D',e2,⟨?_,?_,?_,?_,?_⟩,P⟩
 ·rw[e3,e5];exact hi.1
 ·rw[e3,e4];exact hi.2.1
 ·rw[e5];exact hi.2.2.fl
 ·rw[e1];exact T.pens hi.2.2.pens
 ·rw[e1,e5];exact T.fit D.q hi.2.2.fit
section
variable {w:World} {D:Dv}
theorem za1 {last':Int} (hl:last'<=D.last+1) {e:Ending} {w':World} (h:e=.returned (.bool true)/\∃wA,Below w.heap.size w wA/\∃D',D'.last=last'/\DvI D'/\ZP wA D D' w'):zbu w (some D) D.xp D.yp D.sp e w':=by
 obtain⟨rfl,wA,b,D',h2,hi,P⟩:=h;exact(P.after b).opostI hi (by rw[h2];exact hl)
theorem za2 {e:Ending} {w':World} (h:e=.returned (.bool true)/\∃wA,Below w.heap.size w wA/\Below wA.heap.size wA w'):zbu w none none none none e w':=by
 obtain⟨rfl,wA,b,b2⟩:=h;exact zfx (b.trans (b2.mono b.size))
end
theorem zmO {w:World} {O:Option Dv} {x y s:Option Addr} (h:OAt w O x y s) (hi:oI O) (o:Ca) (hl:zcG O<9223372036854775807):
 Calls Tryz.prog 40 #[.agg (zaE x y s),o.agg] w (zbu w O x y s):=by
 obtain⟨kd,on,A,B,C,E,F,tx,p⟩:=o;cases O with
 |none=>
  obtain⟨rfl,rfl,rfl⟩:=h;by_cases k1:kd=1
  ·subst k1;have hb:∀wA,zb0 48 96 (λq=>#[.pointer q,.int .i64 A,.int .i64 B,.int .i64 C,.int .i64 E,.int .i64 F]) none none wA (.tuple #[.int .i64 0,.int .i64 1]) (λ_=>False) (λw2=>Below wA.heap.size wA w2):=zb0.nil (λw=>Calls.below (zl6 w A B C E F)) (λw=>Calls.below (zkO w A B C E F));exact(zaz 1 on A B C E F tx p (.inl ⟨rfl,rfl,rfl,rfl,rfl,_,_,rfl⟩) (O:=λ_=>False) (Q:=λwA w2=>Below wA.heap.size wA w2) (λ_ f=>f.elim) (λwA _=>hb wA)).mono (λ_ _ q=>za2 q)
  by_cases k2:kd=2
  ·subst k2;have hb:∀wA,zb0 49 97 (λq=>#[.pointer q,.int .i64 A]) none none wA (.int .i64 1) (λ_=>False) (λw2=>Below wA.heap.size wA w2):=zb0.nil (λw=>Calls.below (zl7 w A)) (λw=>Calls.below (zkJ w A));exact(zaz 2 on A B C E F tx p (.inr (.inl ⟨rfl,rfl,rfl,rfl,rfl,_,rfl⟩)) (O:=λ_=>False) (Q:=λwA w2=>Below wA.heap.size wA w2) (λ_ f=>f.elim) (λwA _=>hb wA)).mono (λ_ _ q=>za2 q)
  by_cases k3:kd=3
  ·subst k3;have hb:∀wA,zb0 50 98 (λq=>#[.pointer q,.int .i64 A,.int .i64 B,.int .i64 C]) none none wA (.int .i64 1) (λ_=>False) (λw2=>Below wA.heap.size wA w2):=zb0.nil (λw=>Calls.below (zpW w A B C)) (λw=>Calls.below (zob w A B C));exact(zaz 3 on A B C E F tx p (.inr (.inr (.inl ⟨rfl,rfl,rfl,rfl,rfl,_,rfl⟩))) (O:=λ_=>False) (Q:=λwA w2=>Below wA.heap.size wA w2) (λ_ f=>f.elim) (λwA _=>hb wA)).mono (λ_ _ q=>za2 q)
  by_cases k4:kd=4
  ·subst k4;have hb:∀wA,zb0 51 99 (λq=>#[.pointer q,.int .i64 A,.int .i64 B,.int .i64 C]) none none wA (.int .i64 1) (λ_=>False) (λw2=>Below wA.heap.size wA w2):=zb0.nil (λw=>Calls.below (zn0 w A B C)) (λw=>Calls.below (zme w A B C));exact(zaz 4 on A B C E F tx p (.inr (.inr (.inr (.inl ⟨rfl,rfl,rfl,rfl,rfl,_,rfl⟩)))) (O:=λ_=>False) (Q:=λwA w2=>Below wA.heap.size wA w2) (λ_ f=>f.elim) (λwA _=>hb wA)).mono (λ_ _ q=>za2 q)
  by_cases k5:kd=5
  ·subst k5;have hb:∀wA,zb0 52 100 (λq=>#[.pointer q,.int .i64 A,.bool (on.tmod 2==0)]) none none wA (.int .i64 1) (λ_=>False) (λw2=>Below wA.heap.size wA w2):=zb0.nil (λw=>Calls.below (znZ w A _)) (λw=>Calls.below (zmf w A _));exact(zaz 5 on A B C E F tx p (.inr (.inr (.inr (.inr (.inl ⟨rfl,rfl,rfl,rfl,rfl,_,rfl⟩))))) (O:=λ_=>False) (Q:=λwA w2=>Below wA.heap.size wA w2) (λ_ f=>f.elim) (λwA _=>hb wA)).mono (λ_ _ q=>za2 q)
  by_cases k6:kd=6
  ·subst k6;have hb:∀wA,zb0 53 101 (λq=>#[.pointer q,.int .i64 A,.bool (on.tmod 2==0)]) none none wA (.int .i64 1) (λ_=>False) (λw2=>Below wA.heap.size wA w2):=zb0.nil (λw=>Calls.below (zpV w A _)) (λw=>Calls.below (zoa w A _));exact(zaz 6 on A B C E F tx p (.inr (.inr (.inr (.inr (.inr (.inl ⟨rfl,rfl,rfl,rfl,rfl,_,rfl⟩)))))) (O:=λ_=>False) (Q:=λwA w2=>Below wA.heap.size wA w2) (λ_ f=>f.elim) (λwA _=>hb wA)).mono (λ_ _ q=>za2 q)
  by_cases k7:kd=7
  ·subst k7;have hb:∀wA,zb0 54 102 (λq=>#[.pointer q,.int .i64 A,.int .i64 B]) none none wA (.int .i64 1) (λ_=>False) (λw2=>Below wA.heap.size wA w2):=zb0.nil (λw=>Calls.below (zpX w A B)) (λw=>Calls.below (zog w A B));exact(zaz 7 on A B C E F tx p (.inr (.inr (.inr (.inr (.inr (.inr (.inl ⟨rfl,rfl,rfl,rfl,rfl,_,rfl⟩))))))) (O:=λ_=>False) (Q:=λwA w2=>Below wA.heap.size wA w2) (λ_ f=>f.elim) (λwA _=>hb wA)).mono (λ_ _ q=>za2 q)
  exact(zkT ⟨kd,on,A,B,C,E,F,tx,p⟩ k1 k2 k3 k4 k5 k6 k7).mono (λe w' q=>by obtain⟨rfl,b⟩:=q;exact zfx b)
 |some D=>
  obtain⟨rfl,rfl,rfl,h⟩:=h;have hO:∀i,D.own i->i<w.heap.size:=λi hi=>h.lt hi;by_cases k1:kd=1
  ·subst k1;obtain⟨L',last',a,b,T⟩:=zqK h.ok h.l0 hl A B C E F;exact(zaz 1 on A B C E F tx p (.inl ⟨rfl,rfl,rfl,rfl,rfl,_,_,rfl⟩) hO (λwA q=>T.both h hi wA q)).mono (λ_ _ q=>za1 T.le.2 q)
  by_cases k2:kd=2
  ·subst k2;obtain⟨L',r,T⟩:=zqJ h.ok A;exact(zaz 2 on A B C E F tx p (.inr (.inl ⟨rfl,rfl,rfl,rfl,rfl,_,rfl⟩)) hO (λwA q=>T.both h hi wA q)).mono (λ_ _ q=>za1 T.le.2 q)
  by_cases k3:kd=3
  ·subst k3;obtain⟨L',r,T⟩:=zur h.ok A B C;exact(zaz 3 on A B C E F tx p (.inr (.inr (.inl ⟨rfl,rfl,rfl,rfl,rfl,_,rfl⟩))) hO (λwA q=>T.both h hi wA q)).mono (λ_ _ q=>za1 T.le.2 q)
  by_cases k4:kd=4
  ·subst k4;obtain⟨L',r,T⟩:=zsJ h.ok A B C;exact(zaz 4 on A B C E F tx p (.inr (.inr (.inr (.inl ⟨rfl,rfl,rfl,rfl,rfl,_,rfl⟩)))) hO (λwA q=>T.both h hi wA q)).mono (λ_ _ q=>za1 T.le.2 q)
  by_cases k5:kd=5
  ·subst k5;obtain⟨L',r,T⟩:=zsK h.ok A (on.tmod 2==0);exact(zaz 5 on A B C E F tx p (.inr (.inr (.inr (.inr (.inl ⟨rfl,rfl,rfl,rfl,rfl,_,rfl⟩))))) hO (λwA q=>T.both h hi wA q)).mono (λ_ _ q=>za1 T.le.2 q)
  by_cases k6:kd=6
  ·subst k6;obtain⟨L',r,T⟩:=zuq h.ok A (on.tmod 2==0);exact(zaz 6 on A B C E F tx p (.inr (.inr (.inr (.inr (.inr (.inl ⟨rfl,rfl,rfl,rfl,rfl,_,rfl⟩)))))) hO (λwA q=>T.both h hi wA q)).mono (λ_ _ q=>za1 T.le.2 q)
  by_cases k7:kd=7
  ·subst k7;obtain⟨L',r,T⟩:=zus h.ok A B;exact(zaz 7 on A B C E F tx p (.inr (.inr (.inr (.inr (.inr (.inr (.inl ⟨rfl,rfl,rfl,rfl,rfl,_,rfl⟩))))))) hO (λwA q=>T.both h hi wA q)).mono (λ_ _ q=>za1 T.le.2 q)
  exact(zkT ⟨kd,on,A,B,C,E,F,tx,p⟩ k1 k2 k3 k4 k5 k6 k7).mono (λe w' q=>by obtain⟨rfl,b⟩:=q;exact zgQ (O:=some D) ⟨rfl,rfl,rfl,h⟩ hi b)
theorem zbu.after {w wA w':World} {O:Option Dv} {x y s:Option Addr} {e:Ending} (b:Below w.heap.size w wA) (h:zbu wA O x y s e w'):zbu w O x y s e w':=by
 obtain⟨O',h1,h2,h6,h3,h4,h5⟩:=h;exact⟨O',h1,h2,h6,(zd.below _ b).trans h3 (λ_ _ q=>q),λi hi=>(h4 i hi).imp id (λe=>by have:=b.size;omega),h5⟩
theorem ZP.screenI {w w2 w3:World} {D D':Dv} (h:ZP w D D' w2) {q':Rs} {r:Value} {e:Ending} (hq:q'.Ok) (hr:zac D'.bs D'.bc D'.g w2 q' r e w3):∃D'',D''.L=D'.L/\D''.last=D'.last/\D''.s=D'.s/\D''.t=D'.t/\D''.q=q'/\ZP w D D'' w3:=by
 obtain⟨g',cap',N',_,z,k,hg⟩:=hr;have z2:=h.keep.size;have hz3:∀i,(i=D'.bs\/i=D'.bc\/i=g')->(i=D'.bs\/i=D'.bc\/i=D'.g)\/w2.heap.size<=i:=λi hi=>by omega
 refine⟨{D' with g:=g',cap:=cap',n:=N',q:=q'},rfl,rfl,rfl,rfl,rfl,⟨h.dv.x.keep k (λi hi=>h.dv.xz i hi),h.dv.y.keep k (λi hi=>h.dv.yz i hi),z,h.dv.ok,h.dv.so,hq,h.dv.l0,h.dv.xy,λi hi hs=>?_,λi hi hs=>?_⟩,h.xp,h.yp,h.sp,?_,?_⟩
 ·rcases hz3 i hs with e|e
  ·exact h.dv.xz i hi e
  ·have:=h.dv.x.lt hi;omega
 ·rcases hz3 i hs with e|e
  ·exact h.dv.yz i hi e
  ·have:=h.dv.y.lt hi;omega
 ·refine h.keep.trans k (λi hi e=>?_);rcases h.own i (.inr (.inr e)) with q|q
  ·exact q
  ·omega
 ·rintro i (hi|hi|hi)
  ·exact h.own i (.inl hi)
  ·exact h.own i (.inr (.inl hi))
  ·rcases hz3 i hi with e|e
   ·exact h.own i (.inr (.inr e))
   ·exact .inr (by omega)
theorem ziz {w:World} {D D':Dv} {w2:World} (A B:Int) (P:ZP w D D' w2):Calls Tryz.prog 38 #[.pointer D.sp,.int .i64 A,.int .i64 B] w2 λe w3=>∃r3:Int,e=.returned (.int .i64 r3)/\∃D'',D''.L=D'.L/\D''.last=D'.last/\D''.s=D'.s/\D''.t=D'.t/\D''.q=zgZ A B D'.q/\ZP w D D'' w3:=by
 rw[←P.sp];cases hz:ZC A B with
 |false=>
  have e0:zgZ A B D'.q=D'.q:=by unfold zgZ;rw[hz];rfl
  rw[e0];refine(zgF D'.bs D'.bc D'.g D'.cap D'.n D'.q A B w2 P.dv.z hz).mono (λe w3 q=>?_);have he:e=.returned (.int .i64 3):=by obtain⟨_,_,_,e,_⟩:=q;exact e
  exact⟨3,he,P.screenI P.dv.qo q⟩
 |true=>
  have e0:zgZ A B D'.q=zaB D'.q A.toNat B.toNat:=by unfold zgZ;rw[hz];rfl
  rw[e0];obtain⟨a1,a2,a3,a4⟩:=Zs.1 hz;obtain⟨A,rfl⟩:=Int.eq_ofNat_of_zero_le (show 0<=A by omega);obtain⟨B,rfl⟩:=Int.eq_ofNat_of_zero_le (show 0<=B by omega);simp only[Int.toNat_natCast];refine(zfJ D'.bs D'.bc D'.g D'.cap D'.n D'.q A B w2 P.dv.z P.dv.qo (by omega) (by omega) (by omega) (by omega)).mono (λe w3 q=>?_);have he:e=.returned (.int .i64 0):=by obtain⟨_,_,_,e,_⟩:=q;exact e
  exact⟨0,he,P.screenI (zcT P.dv.qo (by omega) (by omega) (by omega) (by omega)) q⟩
theorem zpj {w:World} {O:Option Dv} {x y s:Option Addr} (h:OAt w O x y s) (hi:oI O) (o:Ca) (h13:o.kd≠13) (hl:zcG O<9223372036854775807):
 Calls Tryz.prog 10 #[.agg (zaE x y s),o.agg] w (zbu w O x y s):=by
 by_cases k12:o.kd=12
 ·obtain⟨kd,on,A,B,C,E,F,tx,p⟩:=o;dsimp only at k12;subst k12;exact(zst h on A B C E F tx p).mono (λe w' q=>by obtain⟨rfl,b⟩:=q;exact zgQ h hi b)
 by_cases hm:o.kd≠8/\o.kd≠9/\o.kd≠10/\o.kd≠11
 ·refine(zfo o hm.1 hm.2.1 hm.2.2.1 hm.2.2.2 k12 h13 (Q:=λwA w'=>zbu wA O x y s (.returned (.bool true)) w') (λwA b=>(zmO (h.below b) hi o hl).mono (λe w' q=>?_))).mono (λe w' q=>?_)
  ·have he:e=.returned (.bool true):=by obtain⟨_,e,_⟩:=q;exact e
   subst he;exact⟨rfl,q⟩
  ·obtain⟨rfl,wA,b,q⟩:=q;exact zbu.after b q
 obtain⟨kd,on,A,B,C,E,F,tx,p⟩:=o;dsimp only at hm h13 k12;cases O with
 |none=>
  obtain⟨rfl,rfl,rfl⟩:=h;by_cases k8:kd=8
  ·subst k8;have hb:∀wA,zb0 31 32 (λq=>#[.pointer q,.int .i64 A,.int .i64 B,.int .i64 C,.string tx,p.agg]) none none wA (.int .i64 1) (λ_=>False) (λw2=>Below wA.heap.size wA w2):=zb0.nil (λw=>zn1 w A B C tx p) (λw=>zmo w A B C tx p);exact(zaz 8 on A B C E F tx p (.inr (.inr (.inr (.inr (.inr (.inr (.inr (.inl ⟨rfl,rfl,rfl,rfl,rfl,_,rfl⟩)))))))) (O:=λ_=>False) (Q:=λwA w2=>Below wA.heap.size wA w2) (λ_ f=>f.elim) (λwA _=>hb wA)).mono (λ_ _ q=>za2 q)
  by_cases k9:kd=9
  ·subst k9;have hb:∀wA,zb0 33 34 (λq=>#[.pointer q,.int .i64 A,.int .i64 B,.int .i64 C,.int .i64 E,.int .i64 F,p.agg]) none none wA (.int .i64 1) (λ_=>False) (λw2=>Below wA.heap.size wA w2):=zb0.nil (λw=>zpY w A B C E F p) (λw=>zoi w A B C E F p);exact(zaz 9 on A B C E F tx p (.inr (.inr (.inr (.inr (.inr (.inr (.inr (.inr (.inl ⟨rfl,rfl,rfl,rfl,rfl,_,rfl⟩))))))))) (O:=λ_=>False) (Q:=λwA w2=>Below wA.heap.size wA w2) (λ_ f=>f.elim) (λwA _=>hb wA)).mono (λ_ _ q=>za2 q)
  by_cases k10:kd=10
  ·subst k10;have hb:∀wA,zb0 35 36 (λq=>#[.pointer q,.int .i64 A,.int .i64 B]) none none wA (.int .i64 1) (λ_=>False) (λw2=>Below wA.heap.size wA w2):=zb0.nil (λw=>Calls.below (zl8 w A B)) (λw=>Calls.below (zkK w A B));exact(zaz 10 on A B C E F tx p (.inr (.inr (.inr (.inr (.inr (.inr (.inr (.inr (.inr ⟨rfl,rfl,rfl,rfl,rfl,_,rfl⟩))))))))) (O:=λ_=>False) (Q:=λwA w2=>Below wA.heap.size wA w2) (λ_ f=>f.elim) (λwA _=>hb wA)).mono (λ_ _ q=>za2 q)
  obtain rfl:kd=11:=by omega
  have hb:∀wA,zb0 18 37 (λq=>#[.pointer q,.int .i64 A,.int .i64 B]) none none wA (.int .i64 1) (λ_=>False) (λw2=>Below wA.heap.size wA w2):=zb0.nil (λw=>Calls.below (zl9 w A B)) (λw=>Calls.below (zkL w A B));exact(znq on A B C E F tx p (O:=λ_=>False) (Q:=λwA w2=>Below wA.heap.size wA w2) (λ_ f=>f.elim) (λwA _=>hb wA) (Q':=λwA w3=>Below wA.heap.size wA w3) (λwA w2 q=>(zfI A B w2).mono (by rintro e w3 ⟨rfl,rfl⟩;exact⟨1,rfl,q⟩))).mono (λ_ _ q=>za2 q)
 |some D=>
  obtain⟨rfl,rfl,rfl,h⟩:=h;have hO:∀i,D.own i->i<w.heap.size:=λi hi=>h.lt hi;by_cases k8:kd=8
  ·subst k8;obtain⟨L',r,T⟩:=zsL h.ok A B C tx p;exact(zaz 8 on A B C E F tx p (.inr (.inr (.inr (.inr (.inr (.inr (.inr (.inl ⟨rfl,rfl,rfl,rfl,rfl,_,rfl⟩)))))))) hO (λwA q=>T.both h hi wA q)).mono (λ_ _ q=>za1 T.le.2 q)
  by_cases k9:kd=9
  ·subst k9;obtain⟨L',r,T⟩:=zut h.ok A B C E F p;exact(zaz 9 on A B C E F tx p (.inr (.inr (.inr (.inr (.inr (.inr (.inr (.inr (.inl ⟨rfl,rfl,rfl,rfl,rfl,_,rfl⟩))))))))) hO (λwA q=>T.both h hi wA q)).mono (λ_ _ q=>za1 T.le.2 q)
  by_cases k10:kd=10
  ·subst k10;obtain⟨L',r,T⟩:=zqL h.ok A B;exact(zaz 10 on A B C E F tx p (.inr (.inr (.inr (.inr (.inr (.inr (.inr (.inr (.inr ⟨rfl,rfl,rfl,rfl,rfl,_,rfl⟩))))))))) hO (λwA q=>T.both h hi wA q)).mono (λ_ _ q=>za1 T.le.2 q)
  obtain rfl:kd=11:=by omega
  obtain⟨L',r,T⟩:=zqM h.ok A B;refine(znq on A B C E F tx p hO (λwA b=>(T.pair (h.below b))) (Q':=λwA w3=>∃D',D'.last=D.last/\DvI D'/\ZP wA D D' w3) (λwA w2 q=>?_)).mono (λ_ _ q=>za1 (by omega) q);obtain⟨D',e1,e2,⟨e3,e4,e5⟩,P⟩:=q;refine(ziz A B P).mono ?_;rintro e w3 ⟨r3,he,D'',f1,f2,f3,f4,f5,P2⟩;refine⟨r3,he,D'',f2.trans e2,⟨?_,?_,?_,?_,?_⟩,P2⟩
  ·rw[f3,f5,e3,e5,hi.1]
  ·rw[f3,f4,e3,e4];have hB:(zgZ A B D.s).B=D.s.B:=by unfold zgZ;split<;>rfl
   rw[hB];exact hi.2.1
  ·rw[f5,e5];exact T.fl _ hi.2.2.fl
  ·rw[f1,e1];exact T.pens hi.2.2.pens
  ·rw[f1,e1,f5,e5];exact T.fit D.q hi.2.2.fit
end
section
open Go.RowKit
attribute [local go_sem ↓] Go.wp_at_zero Go.wp_at_succ
theorem zpm (w:World):Calls Tryz.prog 21 #[.pointer none] w λe w'=>e=.returned (.string ⟨#[]⟩)/\w'=w:=by
 go_in;go_wp2_with (first|(go_at_call 41;refine sM (zfD _) ?_));go_ret;exact⟨rfl,rfl⟩
def dfB (s:Rs) (P:Nat->Nat->zk) (i:Nat):Bool:=ZL s P (i%s.W) (i/s.W)
theorem zwj (s:Rs) (P:Nat->Nat->zk) {x y:Nat} (hx:x<s.W):dfB s P (y*s.W+x) = !(s.G x y).eqB (P x y):=by
 unfold dfB ZL;rw[Nat.add_comm,Nat.add_mul_mod_self_right,Nat.mod_eq_of_lt hx,Nat.add_mul_div_right _ _ (by omega),Nat.div_eq_of_lt hx,Nat.zero_add]
structure Fd (L:List Wn) (s:Rs) (P:Nat->Nat->zk) (b:List UInt8) (kn:Nat):Prop where
 flok:zj9 L (zj s b)
 few:b.length<=64*kn+16
 kn8:kn<=800
 none:kn=0->b=[]
 moved:∀c:Nat,(c=s.H*s.W\/∃n:Int,-(s.H:Int)<=n/\n<=s.H/\c=ZA s P n)->b.length<=64*c+24
 odd:(zj s b).odd=s.odd
 W:(zj s b).W=s.W
 H:(zj s b).H=s.H
 eq:∀x y,x<s.W->y<s.H->(zj s b).G x y=P x y
 top:(zj s b).top=0
 bot:(zj s b).bot=((zj s b).H:Int)-1
 ground:zat (zj s b)=true
theorem zwk {w:World} {M:Mm} {L:List Wn} {last:Int} {N:Nat} {s:Rs} {t:Pt} {rk:Int->Nat} {K:Nat} (f:zj9 L s) (T:ZR L rk K) (h:zI w M L last N s t) {r:Wn} (hr:r∈L) (hr0:r.n=0) (P:Nat->Nat->zk) (hP:(λx y:Nat=>zcx L K r x y)=P) (b:List UInt8) (hb:zdu s P=b) (kn:Nat) (hk:za0 (dfB s P) (s.H*s.W)=kn):Fd L s P b kn:=by
 have hp:=f.pic T h hr hr0;rw[hP] at hp;have hq:=zk6 f.fl hp;rw[hb] at hq;have hk':ZA s P 0=kn:=by rw[zgM f.fl];exact hk
 have f':zj9 L (zj s b):=⟨hq.re.fl,f.pens,by rw[hq.re.W,hq.re.H];exact f.fit⟩;have h1:=zd7 (dfB s P) (s.H*s.W);have h2:=Nat.mul_le_mul f.fl.ok.h2 f.fl.ok.w2;refine⟨f',by rw[←hk'];exact hq.few,by omega,λe=>hq.none (by rw[hk',e]),λc hc=>?_,hq.re.odd,hq.re.W,hq.re.H,λx y hx hy=>hq.re.eq x y hx hy,f'.fl.top,f'.fl.bot,?_⟩
 ·rcases hc with e|⟨n,n1,n2,e⟩
  ·have:=hq.few;rw[hk'] at this;omega
  ·rw[e];exact hq.moved n n1 n2
 ·have tq:Tie (zj s b).B zl2:=by rw[f'.fl.B];exact zg0 rfl rfl
  rw[←zil tq];rfl
end
section
open Go.RowKit
theorem ZP.trans {w w1 w2:World} {D D1 D2:Dv} (h:ZP w D D1 w1) (k:ZP w1 D1 D2 w2):ZP w D D2 w2:=
 ⟨k.dv,k.xp.trans h.xp,k.yp.trans h.yp,k.sp.trans h.sp,h.keep.trans k.keep (λi hi q=>by
  rcases h.own i q with e|e
  ·exact e
  ·omega),λi hi=>by
  rcases k.own i hi with e|e
  ·exact h.own i e
  ·exact .inr (Nat.le_trans h.keep.size e)⟩
theorem ZP.then {w w1 w2:World} {D D1:Dv} (h:ZP w D D1 w1) (b:Below w1.heap.size w1 w2):ZP w D D1 w2:=
 ⟨h.dv.below b,h.xp,h.yp,h.sp,h.keep.thenBelow b,h.own⟩
structure ztj (D D1:Dv):Prop where
 L:D1.L=D.L
 last:D1.last=D.last
 R:D1.R=D.R
 bs:D1.bs=D.bs
 bc:D1.bc=D.bc
theorem zu4 {w:World} {D:Dv} (h:zc2 w D) (hi:DvI D) (tab:ZY w) {rk:Int->Nat} {K:Nat} (T:ZR D.L rk K) {r:Wn} (hr:r∈D.L) (hr0:r.n=0) (P:Nat->Nat->zk) (hP:(λx y:Nat=>zcx D.L K r x y)=P) (b:List UInt8) (hb:zdu D.q P=b):
 Calls Tryz.prog 21 #[.pointer D.xp] w λe w'=>e=.returned (zaD b)/\∃D1,ZP w D D1 w'/\ztj D D1/\D1.q=D.q/\D1.s=zj D.q b/\Tie D1.s.B D1.t:=by
 have hs:=hi.1;have hx:=h.x;have ht:=hi.2.1;rw[hs] at hx ht;refine(zuV T h.ok w hx ht hi.2.2 tab r hr hr0 b (by rw[hP];exact hb)).mono ?_;rintro e w' ⟨t',tie',M',N',rfl,D',et,K',O⟩;have hM:∀i,M'.own D.L i->i<w'.heap.size:=λi hi=>D'.lt hi;have hy:∀i,D.R.own D.L i->i<w.heap.size:=λi hi=>h.y.lt hi;have hz:∀i,(i=D.bs\/i=D.bc\/i=D.g)->i<w.heap.size:=λi hi=>h.lt (.inr (.inr hi));refine⟨rfl,{D with M:=M',N:=N',s:=zj D.q b,t:=t'},⟨⟨D',h.y.keep K' (λi hi q=>h.xy i q hi),?_,h.ok,zfp b h.qo,h.qo,h.l0,λi hi q=>?_,λi hi q=>?_,h.yz⟩,?_,rfl,rfl,K'.mono (λi hi=>.inl hi),?_⟩,⟨rfl,rfl,rfl,rfl,rfl⟩,rfl,rfl,tie'⟩
 ·exact h.z.same (K'.block _ h.z.lt (λq=>h.xz _ q (.inl rfl))) (K'.block _ h.z.cels.lt (λq=>h.xz _ q (.inr (.inl rfl)))) (K'.block _ h.z.cels.glt (λq=>h.xz _ q (.inr (.inr rfl))))
 ·rcases O i hi with e|e
  ·exact h.xy i e q
  ·have:=hy i q;omega
 ·rcases O i hi with e|e
  ·exact h.xz i e q
  ·have:=hz i q;omega
 ·show some _=some _;rw[et]
 ·rintro i (q|q|q)
  ·rcases O i q with e|e
   ·exact .inl (.inl e)
   ·exact .inr e
  ·exact .inl (.inr (.inl q))
  ·exact .inl (.inr (.inr q))
theorem zwo {w:World} {D:Dv} (h:zc2 w D) (b:List UInt8) (hB:D.q.B=⟨#[]⟩) (hb:b.length<=100000):
 Calls Tryz.prog 72 #[.pointer D.sp,zaD b] w λe w'=>e=.returned (.tuple #[])/\∃D2,ZP w D D2 w'/\ztj D D2/\D2.q=zj D.q b/\D2.s=D.s/\D2.t=D.t:=by
 have hf:=zhe D.bs D.bc D.g D.cap D.n D.q ⟨b.toArray⟩ w h.z h.qo (by rw[hB];exact zcm) (by rw[hB];show 0+b.length<=_;omega);have e2:zj D.q (⟨b.toArray⟩:ByteArray).data.toList=zj D.q b:=by simp
 rw[e2] at hf;refine hf.mono ?_;rintro e w' ⟨g',cap',N',rfl,z,k,hg⟩;have hz3:∀i,(i=D.bs\/i=D.bc\/i=g')->(i=D.bs\/i=D.bc\/i=D.g)\/w.heap.size<=i:=λi hi=>by omega
 refine⟨rfl,{D with g:=g',cap:=cap',n:=N',q:=zj D.q b},⟨⟨h.x.keep' k (λi hi=>h.xz i hi),h.y.keep k (λi hi=>h.yz i hi),z,h.ok,h.so,zfp b h.qo,h.l0,h.xy,λi hi hs=>?_,λi hi hs=>?_⟩,rfl,rfl,rfl,k.mono (λi hi=>.inr (.inr hi)),?_⟩,⟨rfl,rfl,rfl,rfl,rfl⟩,rfl,rfl,rfl⟩
 ·rcases hz3 i hs with e|e
  ·exact h.xz i hi e
  ·have:=h.x.lt hi;omega
 ·rcases hz3 i hs with e|e
  ·exact h.yz i hi e
  ·have:=h.y.lt hi;omega
 ·rintro i (q|q|q)
  ·exact .inl (.inl q)
  ·exact .inl (.inr (.inl q))
  ·rcases hz3 i q with e|e
   ·exact .inl (.inr (.inr e))
   ·exact .inr e
end
end Go.Proofs.YtjlfibhbfdckpaaGreatDoor
