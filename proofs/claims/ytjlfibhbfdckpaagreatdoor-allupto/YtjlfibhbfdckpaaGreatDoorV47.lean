import Derived.Test.YtjlfibhbfdckpaaGreatDoorV46
namespace Go.Proofs.YtjlfibhbfdckpaaGreatDoor
set_option maxHeartbeats 64000000
set_option maxRecDepth 100000
section
open Go.RowKit
attribute [local go_sem ↓] Go.wp_at_zero Go.wp_at_succ
theorem zka {w:World} {D0:Dv} (h:zc2 w D0) (hi:DvI D0) (tab:ZY w):
 Calls Tryz.prog 28 #[.agg (zaE D0.xp D0.yp D0.sp)] w λe w'=>e=.returned (.bool true)/\∃D2,ZP w D0 D2 w'/\DvI D2/\D2.L=D0.L/\D2.last=D0.last:=by
 have HI:Hid (zc2 w D0/\DvI D0/\ZY w):=⟨h,hi,tab⟩;have hO:∀i,D0.own i->i<w.heap.size:=λi q=>h.lt q;have HO:=zH hO;obtain⟨rk,K,T⟩:=h.ok.tree;obtain⟨r,tl,eL,r0,_,_⟩:=T.head;have hrL:r∈D0.L:=by rw[eL];exact List.mem_cons_self
 obtain⟨eW,eH⟩:=hi.2.2.fit r hrL r0;have qo:=h.qo;obtain⟨P,hP⟩:∃P:Nat->Nat->zk,(λx y:Nat=>zcx D0.L K r x y)=P:=⟨_,rfl⟩;obtain⟨b,hb⟩:∃b,zdu D0.q P=b:=⟨_,rfl⟩;obtain⟨kn,hkn⟩:∃kn,za0 (dfB D0.q P) (D0.q.H*D0.q.W)=kn:=⟨_,rfl⟩;have HFd:Hid (Fd D0.L D0.q P b kn):=by
  have hx:=h.x;rw[hi.1] at hx;exact zwk hi.2.2 T hx hrL r0 P hP b hb kn hkn
 have HDR:Hid (∀w',Below w.heap.size w w'->zpi w' D0.R D0.L D0.last D0.bs D0.bc D0.g D0.cap D0.n D0.q):=λw' b=>⟨(h.below b).y,(h.below b).z⟩;have HD:Hid (ZR D0.L rk K/\ZK D0.L D0.last/\D0.L[0]?=some r/\r.W=D0.q.W/\r.H=D0.q.H/\(λx y:Nat=>zcx D0.L K r x y)=P):=⟨T,h.ok,znH T hrL r0,eW,eH,hP⟩;have Hr:Hid (r∈D0.L/\r.n=0/\zdu D0.q P=b/\za0 (dfB D0.q P) (D0.q.H*D0.q.W)=kn):=⟨hrL,r0,hb,hkn⟩;have Hqo:=zH qo;show Calls Tryz.prog 28 #[.agg #[.pointer (some ⟨D0.M.t 0,0,none⟩),.pointer (some ⟨D0.R.d,0,none⟩),.pointer (some ⟨D0.bs,0,none⟩)]] w λe w'=>e=.returned (.bool true)/\∃D2,ZP w D0 D2 w'/\DvI D2/\D2.L=D0.L/\D2.last=D0.last;obtain⟨s,hs⟩:∃s,D0.q=s:=⟨_,rfl⟩;obtain⟨L,hL⟩:∃L,D0.L=L:=⟨_,rfl⟩;obtain⟨R,hR⟩:∃R,D0.R=R:=⟨_,rfl⟩;obtain⟨M,hM⟩:∃M,D0.M=M:=⟨_,rfl⟩;obtain⟨bs,hbs⟩:∃bs,D0.bs=bs:=⟨_,rfl⟩;obtain⟨bc,hbc⟩:∃bc,D0.bc=bc:=⟨_,rfl⟩;have Heq:Hid (D0.q=s/\D0.L=L/\D0.R=R/\D0.M=M/\D0.bs=bs/\D0.bc=bc):=⟨hs,hL,hR,hM,hbs,hbc⟩;rw[hs] at Hqo;rw[hs,hL] at HFd HD;rw[hs,hL,hR,hbs,hbc] at HDR;rw[hs,hL] at Hr;rw[hM,hR,hbs];have w1:=Hqo.out.w1;have w2:=Hqo.out.w2;have hH:=Hqo.out.h2;have hmul:=Nat.mul_le_mul hH w2;have Hcnt:Hid (∀i,za0 (dfB s P) i<=i):=zd7 _;clear h hi tab hO T eL r0 hrL eW eH qo hP hb hkn hs hL hR hM hbs hbc;go_in;go_upto_region 1 with fail
 have hA:∃wA A,w.alloc (.cells #[.pointer (some ⟨M.t 0,0,none⟩),.pointer (some ⟨R.d,0,none⟩),.pointer (some ⟨bs,0,none⟩)] 28)=wA/\w.heap.size=A/\Below w.heap.size w wA/\wA.heap[A]?=some (.cells #[.pointer (some ⟨M.t 0,0,none⟩),.pointer (some ⟨R.d,0,none⟩),.pointer (some ⟨bs,0,none⟩)] 28):=⟨_,_,rfl,rfl,(Below.refl _ _).alloc (Nat.le_refl _) _,zf _ _⟩;obtain⟨wA,A,hwA,hAA,belA,bA⟩:=hA;rw[hwA];try rw[hAA]
 have zA:=(Array.getElem?_eq_some_iff.1 bA).1;have cA1:wA.cell? ⟨A,1,none⟩=some (.pointer (some ⟨R.d,0,none⟩)):=za bA 1;have cA2:wA.cell? ⟨A,2,none⟩=some (.pointer (some ⟨bs,0,none⟩)):=za bA 2;have HA:Hid (Below w.heap.size w wA/\wA.heap[A]?=some (.cells #[.pointer (some ⟨M.t 0,0,none⟩),.pointer (some ⟨R.d,0,none⟩),.pointer (some ⟨bs,0,none⟩)] 28)/\w.heap.size=A):=⟨belA,bA,hAA⟩;clear hwA hAA belA bA;go_wp2_with fail;go_at_call 69;refine(zfH bs bc _ _ _ s wA (HDR.out wA HA.out.1).z).mono ?_;rintro e wS ⟨rfl,hbS⟩;have HS:=zH hbS;clear hbS cA1 cA2;go_upto_region 5 with fail
 have hB:∃wB B,wS.alloc (.cells #[.int .i64 s.W,.int .i64 s.H,.int .i64 s.x,.int .i64 s.y,.bool s.pend,.int .i64 s.pen.f,.int .i64 s.pen.b,.bool s.pen.bo,.bool s.pen.un,.bool s.pen.re,.int .i64 s.top,.int .i64 s.bot,.bool (zat s)] 59)=wB/\wS.heap.size=B/\Below wS.heap.size wS wB/\wB.cell? ⟨B,0,none⟩=some (.int .i64 s.W)/\wB.cell? ⟨B,1,none⟩=some (.int .i64 s.H):=⟨_,_,rfl,rfl,(Below.refl _ _).alloc (Nat.le_refl _) _,za (zf _ _) 0,za (zf _ _) 1⟩;obtain⟨wB,B,hwB,hBB,belB,cW,cH⟩:=hB;rw[hwB];try rw[hBB]
 have zB:B<wB.heap.size:=World.block_lt_of_cell? _ _ cW;have HB:Hid (Below w.heap.size w wB/\wB.cell? ⟨B,0,none⟩=some (.int .i64 s.W)/\wB.cell? ⟨B,1,none⟩=some (.int .i64 s.H)/\wB.heap[A]?=some (.cells #[.pointer (some ⟨M.t 0,0,none⟩),.pointer (some ⟨R.d,0,none⟩),.pointer (some ⟨bs,0,none⟩)] 28)/\A<wB.heap.size):=by
  have b1:=HS.out.trans (belB.mono HS.out.size);exact⟨HA.out.1.trans (b1.mono HA.out.1.size),cW,cH,(b1.block A zA).trans HA.out.2.1,Nat.lt_of_lt_of_le zA b1.size⟩
 have zA2:=HB.out.2.2.2.2;clear hwB hBB belB HS zA cW cH;go_wp2_with fail;go_loopw[6,5] (λvi vs wr=>∃y:Nat,vi=.int .i64 y/\y<=s.H/\vs=.int .i64 (za0 (dfB s P) (y*s.W):Nat)/\Below wB.heap.size wB wr) (λvi _ _=>s.H-(intOf vi).toNat)
 case atStart=>exact⟨0,rfl,Nat.zero_le _,by simp[za0],Below.refl _ _⟩
 case round=>
  obtain⟨y,rfl,hy,rfl,hbi⟩:=hrel;have HBy:=zH hbi;have cH:=(hbi.cells zB 1).trans HB.out.2.2.1;clear hbi;by_cases hyc:y<s.H
  ·have hyc':(y:Int)<(s.H:Int):=by omega
   go_wp2_with fail;go_loopw[7,5] (λvi vs wi=>∃x:Nat,vi=.int .i64 x/\x<=s.W/\vs=.int .i64 (za0 (dfB s P) (y*s.W+x):Nat)/\Below wB.heap.size wB wi) (λvi _ _=>s.W-(intOf vi).toNat)
   case atStart=>exact⟨0,rfl,Nat.zero_le _,rfl,HBy.out⟩
   case round=>
    obtain⟨x,rfl,hx,rfl,hbx⟩:=hrel;have HBx:=zH hbx;have HWx:=zH<|HB.out.1.trans (hbx.mono HB.out.1.size)
    have cW:=(hbx.cells zB 0).trans HB.out.2.1;have bAr:=(hbx.block A zA2).trans HB.out.2.2.2.1;have cA1:wr.cell? ⟨A,1,none⟩=some (.pointer (some ⟨R.d,0,none⟩)):=za bAr 1;have cA2:wr.cell? ⟨A,2,none⟩=some (.pointer (some ⟨bs,0,none⟩)):=za bAr 2;have zAr:=Nat.lt_of_lt_of_le zA2 hbx.size;have hyW:y*s.W+s.W<=s.H*s.W:=by rw[←Nat.succ_mul];exact Nat.mul_le_mul_right _ hyc
    clear hbx cH bAr;by_cases hxc:x<s.W
    ·have hxc':(x:Int)<(s.W:Int):=by omega
     have hcl:=Hcnt.out (y*s.W+x);have Hnx:Hid (za0 (dfB s P) (y*s.W+(x+1))=za0 (dfB s P) (y*s.W+x)+(if (!(s.G x y).eqB (P x y))=true then 1 else 0)):=by
      show _=_;rw[←Nat.add_assoc,zii,zwj s P hxc]
     obtain⟨sm,hsm⟩:∃sm,za0 (dfB s P) (y*s.W+x)=sm:=⟨_,rfl⟩;have hsl:sm<=800:=by omega
     rw[hsm] at Hnx ⊢;have Hyx:Hid (y<s.H/\x<s.W):=⟨hyc,hxc⟩;clear hcl hsm hyW hx hy hyc hxc;go_wp2_with fail;go_at_call 70;refine(zd2 bs bc _ _ _ s x y wr (HDR.out wr HWx.out).z (zu.2 (by have:=Hyx.out;omega))).mono ?_;rintro e w3 ⟨rfl,hb3⟩;rw[Int.toNat_natCast,Int.toNat_natCast];obtain⟨ca,hca⟩:∃ca,s.G x y=ca:=⟨_,rfl⟩;have Hca:=zH hca;rw[hca];have H3:=zH hb3;have cA1':=(hb3.cells zAr 1).trans cA1;have zA3:=Nat.lt_of_lt_of_le zAr hb3.size;clear hb3 hca cA1 cA2 cW;have cA1:=cA1';go_wp2_with fail;obtain⟨w4,hw4,bel4,c4,z4,_⟩:=zbE w3 ca _ rfl;rw[hw4];obtain⟨D,hD⟩:∃D,w3.heap.size=D:=⟨_,rfl⟩;rw[hD] at c4 z4;try rw[hD]
     have H4:Hid (Below wr.heap.size wr w4/\zv w4 D 0 ca):=⟨H3.out.trans (bel4.mono H3.out.size),c4⟩;clear hw4 bel4 c4 hD;go_at_call 39;refine(zhC HD.out.1 HD.out.2.1 w4 ((HDR.out wr HWx.out).below H4.out.1).y r HD.out.2.2.1 x y (zu.2 (by have:=Hyx.out;rw[HD.out.2.2.2.1,HD.out.2.2.2.2.1];omega))).mono ?_;rintro e w5 ⟨rfl,hb5⟩;have hcb:=congrFun (congrFun HD.out.2.2.2.2.2 x) y;rw[hcb];have H5:Hid (Below wr.heap.size wr w5/\zv w5 D 0 ca):=⟨H4.out.1.trans (hb5.mono H4.out.1.size),H4.out.2.below hb5 H4.out.2.lt⟩;have z5:D<w5.heap.size:=by have:=hb5.size;omega
     clear hb5 hcb H4 z4 cA1;go_upto_region 14 with fail
     obtain⟨w6,hw6,bel6,c6,z6,_⟩:=zbE w5 (P x y) _ rfl;rw[hw6];obtain⟨E,hE⟩:∃E,w5.heap.size=E:=⟨_,rfl⟩;rw[hE] at c6 z6;try rw[hE]
     have H6:=zH<|H5.out.1.trans (bel6.mono H5.out.1.size)
     obtain⟨p0,p1,p2,p3,p4,p5,p6⟩:=H5.out.2.below bel6 z5;obtain⟨q0,q1,q2,q3,q4,q5,q6⟩:=c6;simp only[Nat.zero_add] at p0 p1 p2 p3 p4 p5 p6 q0 q1 q2 q3 q4 q5 q6;have hne:=λw=>zcO ca (P x y) w;clear hw6 bel6 hE H5 z6 z5;cases hq:ca.eqB (P x y) with
     |true=>
      have Hq:=zH hq;simp only[hq,Bool.not_true] at hne;clear hq;go_wp2_with fail;go_roundw
      case rel=>exact⟨x+1,by go_num,by have:=Hyx.out.2;omega,by rw[Hnx.out,Hca.out,Hq.out];rfl,HBx.out.trans (H6.out.mono HBx.out.size)⟩
      case measure=>simp[intOf];have:=Hyx.out.2;omega
     |false=>
      have Hq:=zH hq;simp only[hq,Bool.not_false] at hne;clear hq;go_wp2_with fail;go_roundw
      case rel=>exact⟨x+1,by go_num,by have:=Hyx.out.2;omega,by rw[Hnx.out,Hca.out,Hq.out];rfl,HBx.out.trans (H6.out.mono HBx.out.size)⟩
      case measure=>simp[intOf];have:=Hyx.out.2;omega
    ·have hxc':¬((x:Int)<(s.W:Int)):=by omega
     have ex:x=s.W:=by omega
     have Hex:=zH ex;have Hy:=zH hyc;clear ex cA1 cA2;go_wp2_with fail;go_roundw
     case rel=>exact⟨y+1,by go_num,by have:=Hy.out;omega,by rw[Hex.out,Nat.succ_mul],HBx.out⟩
     case measure=>simp[intOf];have:=Hy.out;omega
  ·have hyc':¬((y:Int)<(s.H:Int)):=by omega
   have ey:y=s.H:=by omega
   have Hk:Hid (za0 (dfB s P) (y*s.W)=kn):=by rw[ey];exact Hr.out.2.2.2
   have HWy:Hid (Below w.heap.size w wr/\wr.heap[A]?=some (.cells #[.pointer (some ⟨M.t 0,0,none⟩),.pointer (some ⟨R.d,0,none⟩),.pointer (some ⟨bs,0,none⟩)] 28)/\A<wr.heap.size):=⟨HB.out.1.trans (HBy.out.mono HB.out.1.size),(HBy.out.block A zA2).trans HB.out.2.2.2.1,Nat.lt_of_lt_of_le zA2 HBy.out.size⟩;rw[Hk.out];have a0:wr.cell? ⟨A,0,none⟩=some (.pointer (some ⟨M.t 0,0,none⟩)):=za HWy.out.2.1 0;have a1:wr.cell? ⟨A,1,none⟩=some (.pointer (some ⟨R.d,0,none⟩)):=za HWy.out.2.1 1;have a2:wr.cell? ⟨A,2,none⟩=some (.pointer (some ⟨bs,0,none⟩)):=za HWy.out.2.1 2;clear ey hy hyc;go_wp2_with fail;go_at_call 71;refine(zuW (some ⟨M.t 0,0,none⟩) bs bc _ _ _ s wr (HDR.out wr HWy.out.1) HD.out.1 HD.out.2.1 r Hr.out.1 Hr.out.2.1 HD.out.2.2.2.1 HD.out.2.2.2.2.1 Hqo.out P HD.out.2.2.2.2.2).mono ?_;rintro e x1 ⟨c,rfl,hcc,hb1⟩;have H1:Hid (Below w.heap.size w x1/\x1.heap[A]?=some (.cells #[.pointer (some ⟨M.t 0,0,none⟩),.pointer (some ⟨R.d,0,none⟩),.pointer (some ⟨bs,0,none⟩)] 28)/\A<x1.heap.size):=⟨HWy.out.1.trans (hb1.mono HWy.out.1.size),(hb1.block A HWy.out.2.2).trans HWy.out.2.1,Nat.lt_of_lt_of_le HWy.out.2.2 hb1.size⟩;have Hcc:Hid (b.length<=64*c+24/\c<=800):=⟨HFd.out.moved c hcc.2,hcc.1⟩;clear hb1 hcc a0 a1 a2;have a0:x1.cell? ⟨A,0,none⟩=some (.pointer (some ⟨M.t 0,0,none⟩)):=za H1.out.2.1 0;have a2:x1.cell? ⟨A,2,none⟩=some (.pointer (some ⟨bs,0,none⟩)):=za H1.out.2.1 2;have od:x1.cell? ⟨bs,15,none⟩=some (.int .i64 s.odd):=za (HDR.out x1 H1.out.1).z.blk 15;go_wp2_with fail;go_at_call 21;have nA0:¬D0.own A:=λq=>by have:=HO.out _ q;have:=HA.out.2.2;omega
   have HnA:=zH nA0;clear nA0;have hfl:=zu4 (HI.out.1.below H1.out.1) HI.out.2.1 (HI.out.2.2.below H1.out.1) (by rw[Heq.out.2.1];exact HD.out.1) (by rw[Heq.out.2.1];exact Hr.out.1) Hr.out.2.1 P (by rw[Heq.out.2.1];exact HD.out.2.2.2.2.2) b (by rw[Heq.out.1];exact Hr.out.2.2.1);have exp:D0.xp=some ⟨M.t 0,0,none⟩:=by show some _=some _;rw[Heq.out.2.2.2.1]
   rw[exp] at hfl;refine hfl.mono ?_;clear hfl exp;rintro e x2 ⟨rfl,D1,P2,R2,q2,s2,tie2⟩;have H2:Hid (ZP x1 D0 D1 x2/\ztj D0 D1/\D1.q=D0.q/\D1.s=zj D0.q b/\Tie D1.s.B D1.t/\x2.heap[A]?=some (.cells #[.pointer (some ⟨M.t 0,0,none⟩),.pointer (some ⟨R.d,0,none⟩),.pointer (some ⟨bs,0,none⟩)] 28)/\A<x2.heap.size/\¬D1.own A):=⟨P2,R2,q2,s2,tie2,(P2.keep.block A H1.out.2.2 HnA.out).trans H1.out.2.1,Nat.lt_of_lt_of_le H1.out.2.2 P2.keep.size,λq=>by
    rcases P2.own A q with e|e
    ·exact HnA.out e
    ·have:=H1.out.2.2;omega⟩
   clear P2 R2 q2 s2 tie2 a0 a2 od;have a2:x2.cell? ⟨A,2,none⟩=some (.pointer (some ⟨bs,0,none⟩)):=za H2.out.2.2.2.2.2.1 2;go_wp2_with fail;go_at_call 72;have hfe:=zwo H2.out.1.dv b (by rw[H2.out.2.2.1];exact HI.out.2.1.2.2.fl.B) (by have h1:=HFd.out.few;have h2:=HFd.out.kn8;omega);have esp:D1.sp=some ⟨bs,0,none⟩:=by show some _=some _;rw[H2.out.2.1.bs,Heq.out.2.2.2.2.1]
   rw[esp] at hfe;refine hfe.mono ?_;clear hfe esp;rintro e x3 ⟨rfl,D2,P3,R3,q3,s3',t3⟩;obtain⟨s3,hs3⟩:∃s3,zj s b=s3:=⟨_,rfl⟩;have Hs3:=zH hs3;have H3:Hid (ZP w D0 D2 x3/\ztj D0 D2/\D2.q=s3/\DvI D2/\x3.heap[A]?=some (.cells #[.pointer (some ⟨M.t 0,0,none⟩),.pointer (some ⟨R.d,0,none⟩),.pointer (some ⟨bs,0,none⟩)] 28)/\A<x3.heap.size):=by
    obtain⟨o1,o2,o3,o4,o5,o6,o7,o8⟩:=H2.out;have eq2:D2.q=s3:=by rw[q3,o3,Heq.out.1];exact hs3
    refine⟨((o1.after H1.out.1).trans P3),⟨R3.L.trans o2.L,R3.last.trans o2.last,R3.R.trans o2.R,R3.bs.trans o2.bs,R3.bc.trans o2.bc⟩,eq2,⟨?_,?_,?_⟩,(P3.keep.block A o7 o8).trans o6,Nat.lt_of_lt_of_le o7 P3.keep.size⟩
    ·rw[s3',o4,eq2,Heq.out.1];exact hs3
    ·rw[s3',t3];exact o5
    ·rw[eq2,R3.L,o2.L,Heq.out.2.1,←hs3];exact HFd.out.flok
   clear P3 R3 q3 s3' t3 hs3 a2;have HF3:Hid (s3.W=s.W/\s3.H=s.H/\s3.odd=s.odd/\s3.top=0/\s3.bot=(s3.H:Int)-1/\zat s3=true/\∀x y,x<s.W->y<s.H->s3.G x y=P x y):=by
    have q:=HFd.out;rw[←Hs3.out];exact⟨q.W,q.H,q.odd,q.top,q.bot,q.ground,q.eq⟩
   have HDR2:Hid (∀w',Below x3.heap.size x3 w'->zpi w' R L D0.last bs bc D2.g D2.cap D2.n s3):=λw' bb=>by
    have hd:=H3.out.1.dv.below bb;have y1:=hd.y;have z1:=hd.z;have rr:=H3.out.2.1;rw[rr.R,rr.L,rr.last,Heq.out.2.1,Heq.out.2.2.1] at y1;rw[rr.bs,rr.bc,H3.out.2.2.1,Heq.out.2.2.2.2.1,Heq.out.2.2.2.2.2] at z1;exact⟨y1,z1⟩
   have a2:x3.cell? ⟨A,2,none⟩=some (.pointer (some ⟨bs,0,none⟩)):=za H3.out.2.2.2.2.1 2;go_wp2_with fail;go_at_call 69;refine(zfH bs bc _ _ _ s3 x3 (HDR2.out x3 (Below.refl _ _)).z).mono ?_;rintro e x4 ⟨rfl,hb4⟩;have hg:=HF3.out.2.2.2.2.2.1;have ht:=HF3.out.2.2.2.1;have hbo:=HF3.out.2.2.2.2.1;rw[hg,ht,hbo];have H4:=zH hb4;clear hb4 hg ht hbo a2;go_upto_region 21 with fail
   have hQ:∃x5 C,x4.alloc (.cells #[.int .i64 s3.W,.int .i64 s3.H,.int .i64 s3.x,.int .i64 s3.y,.bool s3.pend,.int .i64 s3.pen.f,.int .i64 s3.pen.b,.bool s3.pen.bo,.bool s3.pen.un,.bool s3.pen.re,.int .i64 0,.int .i64 ((s3.H:Int)-1),.bool true] 59)=x5/\x4.heap.size=C/\Below x3.heap.size x3 x5/\x5.heap[C]?=some (.cells #[.int .i64 s3.W,.int .i64 s3.H,.int .i64 s3.x,.int .i64 s3.y,.bool s3.pend,.int .i64 s3.pen.f,.int .i64 s3.pen.b,.bool s3.pen.bo,.bool s3.pen.un,.bool s3.pen.re,.int .i64 0,.int .i64 ((s3.H:Int)-1),.bool true] 59):=⟨_,_,rfl,rfl,H4.out.trans (((Below.refl _ _).alloc (Nat.le_refl _) _).mono H4.out.size),zf _ _⟩;obtain⟨x5,C,hx5,hC,bel5,bC⟩:=hQ;rw[hx5];try rw[hC]
   have zC:=(Array.getElem?_eq_some_iff.1 bC).1;have zA5:=Nat.lt_of_lt_of_le H3.out.2.2.2.2.2 bel5.size;have H5:Hid (Below x3.heap.size x3 x5/\x5.heap[C]?=some (.cells #[.int .i64 s3.W,.int .i64 s3.H,.int .i64 s3.x,.int .i64 s3.y,.bool s3.pend,.int .i64 s3.pen.f,.int .i64 s3.pen.b,.bool s3.pen.bo,.bool s3.pen.un,.bool s3.pen.re,.int .i64 0,.int .i64 ((s3.H:Int)-1),.bool true] 59)/\x5.heap[A]?=some (.cells #[.pointer (some ⟨M.t 0,0,none⟩),.pointer (some ⟨R.d,0,none⟩),.pointer (some ⟨bs,0,none⟩)] 28)):=⟨bel5,bC,(bel5.block A H3.out.2.2.2.2.2).trans H3.out.2.2.2.2.1⟩;clear hx5 hC bel5 bC;have a2:x5.cell? ⟨A,2,none⟩=some (.pointer (some ⟨bs,0,none⟩)):=za H5.out.2.2 2;have od:x5.cell? ⟨bs,15,none⟩=some (.int .i64 s.odd):=by
    have:=za (HDR2.out x5 H5.out.1).z.blk 15;rw[this];show some (Value.int .i64 s3.odd)=_;rw[HF3.out.2.2.1]
   have g1:x5.cell? ⟨C,1,none⟩=some (.int .i64 s3.H):=za H5.out.2.1 1;have g10:x5.cell? ⟨C,10,none⟩=some (.int .i64 0):=za H5.out.2.1 10;have g11:x5.cell? ⟨C,11,none⟩=some (.int .i64 ((s3.H:Int)-1)):=za H5.out.2.1 11;have g12:x5.cell? ⟨C,12,none⟩=some (.bool true):=za H5.out.2.1 12;have hfew:(b.length:Int)<=64*(kn:Int)+16:=by have:=HFd.out.few;omega
   have hmvd:(b.length:Int)<=64*(c:Int)+24:=by have:=Hcc.out.1;omega
   have hkn8:(kn:Int)<=800:=by have:=HFd.out.kn8;omega
   have hc8:(c:Int)<=800:=by have:=Hcc.out.2;omega
   have ebl:((({data:=b.toArray}:ByteArray).size:Nat):Int)=(b.length:Int):=rfl;have hs21:(s3.H:Int)<=20:=by have:=HF3.out.2.1;omega
   have hgt2:¬(64*(c:Int)+24<(b.length:Int)):=by omega
   have hgt1:¬(64*(kn:Int)+16<(b.length:Int)):=by omega
   go_cut[131] (λv wc=>v=.bool false/\wc=x5)
   case first=>
    by_cases hk0:kn=0
    ·have hb0:=HFd.out.none hk0;subst hb0;subst hk0;clear hfew hkn8;go_wp2_with fail;go_meet
     case rel=>exact⟨rfl,rfl⟩
    ·have hk1:¬((kn:Int)=0):=by omega
     have hk2:((kn:Int)==0)=false:=by simpa using hk1
     clear hk0;go_wp2_with fail;go_meet
     case rel=>exact⟨rfl,rfl⟩
   case rest=>
    obtain⟨rfl,rfl⟩:=hcut;have zC2:=zC;have zA6:=zA5;have cC:wc.cell? ⟨C,0,none⟩=some (.int .i64 s.W)/\wc.cell? ⟨C,1,none⟩=some (.int .i64 s.H):=by
     have e0:wc.cell? ⟨C,0,none⟩=some (.int .i64 s3.W):=za H5.out.2.1 0;have e1:wc.cell? ⟨C,1,none⟩=some (.int .i64 s3.H):=za H5.out.2.1 1;rw[HF3.out.1] at e0;rw[HF3.out.2.1] at e1;exact⟨e0,e1⟩
    have HcC:=zH cC;clear a2 od g1 g10 g11 g12 hfew hmvd hkn8 hc8 hgt1 hgt2 ebl cC zC zA5 hs21;go_wp2_with fail;go_loopw[16] (λvi wr=>∃y:Nat,vi=.int .i64 y/\y<=s.H/\Below wc.heap.size wc wr) (λvi _=>s.H-(intOf vi).toNat)
    case atStart=>exact⟨0,rfl,Nat.zero_le _,Below.refl _ _⟩
    case round=>
     obtain⟨y,rfl,hy,hbi⟩:=hrel;have HBy2:=zH hbi;have cH:=(hbi.cells zC2 1).trans HcC.out.2;clear hbi;by_cases hyc:y<s.H
     ·have hyc2:(y:Int)<(s.H:Int):=by omega
      go_wp2_with fail;go_loopw[17] (λvi wi=>∃x:Nat,vi=.int .i64 x/\x<=s.W/\Below wc.heap.size wc wi) (λvi _=>s.W-(intOf vi).toNat)
      case atStart=>exact⟨0,rfl,Nat.zero_le _,HBy2.out⟩
      case round=>
       obtain⟨x,rfl,hx,hbx⟩:=hrel;have HBx:=zH hbx;have HWx:=zH<|H5.out.1.trans (hbx.mono H5.out.1.size)
       have cW:=(hbx.cells zC2 0).trans HcC.out.1;have bAr:=(hbx.block A zA6).trans H5.out.2.2;have cA1:wr.cell? ⟨A,1,none⟩=some (.pointer (some ⟨R.d,0,none⟩)):=za bAr 1;have cA2:wr.cell? ⟨A,2,none⟩=some (.pointer (some ⟨bs,0,none⟩)):=za bAr 2;have zAr:=Nat.lt_of_lt_of_le zA6 hbx.size;clear hbx cH bAr;by_cases hxc:x<s.W
       ·have hxc':(x:Int)<(s.W:Int):=by omega
        have Hyx:Hid (y<s.H/\x<s.W/\y<s3.H/\x<s3.W):=⟨hyc,hxc,by rw[HF3.out.2.1];exact hyc,by rw[HF3.out.1];exact hxc⟩;clear hx hy hyc hxc;go_wp2_with fail;go_at_call 70;refine(zd2 bs bc _ _ _ s3 x y wr (HDR2.out wr HWx.out).z (zu.2 (by have:=Hyx.out;omega))).mono ?_;rintro e w3 ⟨rfl,hb3⟩;rw[Int.toNat_natCast,Int.toNat_natCast];obtain⟨ca,hca⟩:∃ca,s3.G x y=ca:=⟨_,rfl⟩;have Hca:=zH hca;rw[hca];have H3:=zH hb3;have cA1':=(hb3.cells zAr 1).trans cA1;have zA3:=Nat.lt_of_lt_of_le zAr hb3.size;clear hb3 hca cA1 cA2 cW;have cA1:=cA1';go_wp2_with fail;obtain⟨w4,hw4,bel4,c4,z4,_⟩:=zbE w3 ca _ rfl;rw[hw4];obtain⟨D,hD⟩:∃D,w3.heap.size=D:=⟨_,rfl⟩;rw[hD] at c4 z4;try rw[hD]
        have H4:Hid (Below wr.heap.size wr w4/\zv w4 D 0 ca):=⟨H3.out.trans (bel4.mono H3.out.size),c4⟩;clear hw4 bel4 c4 hD;go_at_call 39;refine(zhC HD.out.1 HD.out.2.1 w4 ((HDR2.out wr HWx.out).below H4.out.1).y r HD.out.2.2.1 x y (zu.2 (by have:=Hyx.out;rw[HD.out.2.2.2.1,HD.out.2.2.2.2.1];omega))).mono ?_;rintro e w5 ⟨rfl,hb5⟩;have hcb:=congrFun (congrFun HD.out.2.2.2.2.2 x) y;rw[hcb];have H5:Hid (Below wr.heap.size wr w5/\zv w5 D 0 ca):=⟨H4.out.1.trans (hb5.mono H4.out.1.size),H4.out.2.below hb5 H4.out.2.lt⟩;have z5:D<w5.heap.size:=by have:=hb5.size;omega
        clear hb5 hcb H4 z4 cA1;go_upto_region 31 with fail
        obtain⟨w6,hw6,bel6,c6,z6,_⟩:=zbE w5 (P x y) _ rfl;rw[hw6];obtain⟨E,hE⟩:∃E,w5.heap.size=E:=⟨_,rfl⟩;rw[hE] at c6 z6;try rw[hE]
        have H6:=zH<|H5.out.1.trans (bel6.mono H5.out.1.size)
        obtain⟨p0,p1,p2,p3,p4,p5,p6⟩:=H5.out.2.below bel6 z5;obtain⟨q0,q1,q2,q3,q4,q5,q6⟩:=c6;simp only[Nat.zero_add] at p0 p1 p2 p3 p4 p5 p6 q0 q1 q2 q3 q4 q5 q6;have hne:=λw=>zcO ca (P x y) w;clear hw6 bel6 hE H5 z6 z5;have hq:ca.eqB (P x y)=true:=by rw[←Hca.out,HF3.out.2.2.2.2.2.2 x y Hyx.out.2.1 Hyx.out.1];exact zk.eqB_iff.2 rfl
        simp only[hq,Bool.not_true] at hne;clear hq;go_wp2_with fail;go_roundw
        case rel=>exact⟨x+1,by go_num,by have:=Hyx.out.2.1;omega,HBx.out.trans (H6.out.mono HBx.out.size)⟩
        case measure=>simp[intOf];have:=Hyx.out.2.1;omega
       ·have hxc':¬((x:Int)<(s.W:Int)):=by omega
        have Hy:=zH hyc;clear cA1 cA2;go_wp2_with fail;go_roundw
        case rel=>exact⟨y+1,by go_num,by have:=Hy.out;omega,HBx.out⟩
        case measure=>simp[intOf];have:=Hy.out;omega
     ·have hyc2:¬((y:Int)<(s.H:Int)):=by omega
      have HZ:Hid (∃D2,ZP w D0 D2 wr/\DvI D2/\D2.L=D0.L/\D2.last=D0.last):=⟨D2,H3.out.1.then (H5.out.1.trans (HBy2.out.mono H5.out.1.size)),H3.out.2.2.2.1,H3.out.2.1.L,H3.out.2.1.last⟩;clear hy hyc;go_wp2_with fail;go_ret;exact⟨rfl,HZ.out⟩
theorem zpo (w:World):
 Calls Tryz.prog 28 #[.agg (zaE none none none)] w (zbu w none none none none):=by
 go_in;go_wp2_with fail;go_at_call 21;refine(zpm _).mono ?_;rintro e w1 ⟨rfl,hw1⟩;have hb:Below w.heap.size w w1:=by rw[hw1];exact(Below.refl _ _).alloc (Nat.le_refl _) _
 have HB:=zH hb;clear hw1 hb;go_wp2_with fail;go_ret;exact zfx HB.out
theorem ze0 {w:World} {O:Option Dv} {x y s:Option Addr} (h:OAt w O x y s) (hi:oI O) (tab:ZY w):
 Calls Tryz.prog 28 #[.agg (zaE x y s)] w (zbu w O x y s):=by
 cases O with
 |none=>
  obtain⟨rfl,rfl,rfl⟩:=h;exact zpo w
 |some D=>
  obtain⟨rfl,rfl,rfl,h⟩:=h;refine(zka h hi tab).mono ?_;rintro e w' ⟨rfl,D2,P2,i2,_,l2⟩;exact P2.opostI i2 (by rw[l2];omega)
end
end Go.Proofs.YtjlfibhbfdckpaaGreatDoor
