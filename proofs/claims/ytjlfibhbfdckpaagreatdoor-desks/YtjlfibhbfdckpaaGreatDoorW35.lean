import Derived.Test.YtjlfibhbfdckpaaGreatDoorW34
namespace Go.Proofs.YtjlfibhbfdckpaaGreatDoor
set_option maxHeartbeats 64000000
set_option maxRecDepth 100000
section
open Go.RowKit
attribute [local go_sem ↓] Go.wp_at_zero Go.wp_at_succ
theorem zjq (s:Rs) (gb:Bool) (w:World):(Instr.field 59 (zcs s.W s.H s.x s.y s.pend s.pen s.top s.bot gb) 5).run Tryz.prog w=.ok s.pen.agg w:=by kernel_rfl
theorem znF (bp po pc:Nat) (lb lc:Nat->Nat) (H:Nat) (P:Nat->Nat->zk) (bs bg g N:Nat) (s:Rs) (t:Pt) (b:Int) (w:World) (h:PtM w bp po pc lb lc H P bs bg g N s t):
 Calls Tryz.prog 200 #[.pointer (some ⟨bp,0,none⟩),.int .i64 b] w λe w'=>e=.returned (zaR s b).agg/\Below w.heap.size w w':=by
 have HH:=zH h;have c1:=h.c1;have zb:=World.block_lt_of_cell? _ _ h.c0;obtain⟨M,hM⟩:∃M,w.heap.size=M:=⟨_,rfl⟩;have HM:=zH hM;clear h;go_in;go_upto_region 1 with fail
 have hA:∃wA,w.alloc (.cells #[.int .i64 0,.int .i64 0,.bool false,.bool false,.bool false] 33)=wA/\Below w.heap.size w wA/\wA.heap[M]?=some (.cells #[.int .i64 0,.int .i64 0,.bool false,.bool false,.bool false] 33)/\wA.heap.size=M+1:=by
  subst hM;exact⟨_,rfl,(Below.refl _ _).alloc (Nat.le_refl _) _,zf _ _,by simp⟩
 obtain⟨wA,hwA,belA,bA,zA⟩:=hA;rw[hwA];have c1':=(belA.cells (b:=bp) zb 1).trans c1;have HPA:=zH<|HH.out.scr.below belA
 have HA:=zH belA;have HbA:=zH bA;clear hwA belA bA c1;go_wp2_with fail;go_at_call 63;refine(zj7 bs bg g N s t wA HPA.out).mono ?_;rintro e w1 ⟨rfl,hb1⟩;have HB1:=zH<|HA.out.trans (hb1.mono HA.out.size)
 have b1:=(hb1.block M (by omega)).trans HbA.out;have z1:M<w1.heap.size:=by have:=hb1.size;omega
 clear hb1 HPA HA HbA c1';generalize (decide (t.mode=0)&&decide (t.bn=0))=gb at *;have Hb1:=zH b1;clear b1;have hsp:=zjq s gb;go_upto_region 2 with fail
 have hB:∃wB D,w1.alloc (.cells #[.int .i64 s.pen.f,.int .i64 s.pen.b,.bool s.pen.bo,.bool s.pen.un,.bool s.pen.re] 33)=wB/\w1.heap.size=D/\Below w.heap.size w wB/\wB.heap[M]?=some (.cells #[.int .i64 0,.int .i64 0,.bool false,.bool false,.bool false] 33)/\wB.heap[D]?=some (.cells #[.int .i64 s.pen.f,.int .i64 s.pen.b,.bool s.pen.bo,.bool s.pen.un,.bool s.pen.re] 33):=⟨_,_,rfl,rfl,HB1.out.alloc HB1.out.size _,(zN _ _ z1).trans Hb1.out,zf _ _⟩;obtain⟨wB,D,hwB,hD,belB,bM,bD⟩:=hB;rw[hwB,hD];have hMD:M<D:=by omega
 have fr:=ze bD;have k1:wB.cell? ⟨D,1,none⟩=some (.int .i64 s.pen.b):=za bD 1;have HB:Hid (Below w.heap.size w wB/\wB.heap[M]?=some (.cells #[.int .i64 0,.int .i64 0,.bool false,.bool false,.bool false] 33)/\wB.heap[D]?=some (.cells #[.int .i64 s.pen.f,.int .i64 s.pen.b,.bool s.pen.bo,.bool s.pen.un,.bool s.pen.re] 33)):=⟨belB,bM,bD⟩;clear hwB hD belB bM bD HB1 Hb1 z1;go_upto_region 3 with fail
 have hC:∃wC,wB.setCell ⟨D,1,none⟩ (.int .i64 b)=wC/\Below w.heap.size w wC/\wC.heap[M]?=some (.cells #[.int .i64 0,.int .i64 0,.bool false,.bool false,.bool false] 33)/\wC.heap[D]?=some (.cells #[.int .i64 s.pen.f,.int .i64 b,.bool s.pen.bo,.bool s.pen.un,.bool s.pen.re] 33):=by
  have k:=(zd.refl (λi=>i=D) wB).setCell ⟨D,1,none⟩ (.int .i64 b) (λ_=>rfl);have zM:=(Array.getElem?_eq_some_iff.1 HB.out.2.1).1;refine⟨_,rfl,HB.out.1.trans (k.toBelow HB.out.1.size (λi hi e=>by have:=HM.out;omega)),(k.block M zM (by omega)).trans HB.out.2.1,?_⟩;have:=zg HB.out.2.2 1 (.int .i64 b);exact this
 obtain⟨wC,hwC,belC,bM,bD⟩:=hC;rw[hwC];have HC:Hid (Below w.heap.size w wC/\wC.heap[M]?=some (.cells #[.int .i64 0,.int .i64 0,.bool false,.bool false,.bool false] 33)):=⟨belC,bM⟩;clear fr k1;have fr:=ze bM;have d0:wC.cell? ⟨D,0,none⟩=some (.int .i64 s.pen.f):=za bD 0;have d1:wC.cell? ⟨D,1,none⟩=some (.int .i64 b):=za bD 1;have d2:wC.cell? ⟨D,2,none⟩=some (.bool s.pen.bo):=za bD 2;have d3:wC.cell? ⟨D,3,none⟩=some (.bool s.pen.un):=za bD 3;have d4:wC.cell? ⟨D,4,none⟩=some (.bool s.pen.re):=za bD 4;have k0:wC.cell? ⟨M,0,none⟩=some (.int .i64 0):=za bM 0;have k1:wC.cell? ⟨M,1,none⟩=some (.int .i64 0):=za bM 1;have k2:wC.cell? ⟨M,2,none⟩=some (.bool false):=za bM 2;have k3:wC.cell? ⟨M,3,none⟩=some (.bool false):=za bM 3;have k4:wC.cell? ⟨M,4,none⟩=some (.bool false):=za bM 4;clear hwC belC bM bD HB;go_wp2_with fail;have hE:∃wE,((((wC.setCell ⟨M,0,none⟩ (.int .i64 s.pen.f)).setCell ⟨M,1,none⟩ (.int .i64 b)).setCell ⟨M,2,none⟩ (.bool s.pen.bo)).setCell ⟨M,3,none⟩ (.bool s.pen.un)).setCell ⟨M,4,none⟩ (.bool s.pen.re)=wE/\Below w.heap.size w wE/\wE.heap[M]?=some (.cells #[.int .i64 s.pen.f,.int .i64 b,.bool s.pen.bo,.bool s.pen.un,.bool s.pen.re] 33):=by
  have k:=(((((zd.refl (λi=>i=M) wC).setCell ⟨M,0,none⟩ (.int .i64 s.pen.f) (λ_=>rfl)).setCell ⟨M,1,none⟩ (.int .i64 b) (λ_=>rfl)).setCell ⟨M,2,none⟩ (.bool s.pen.bo) (λ_=>rfl)).setCell ⟨M,3,none⟩ (.bool s.pen.un) (λ_=>rfl)).setCell ⟨M,4,none⟩ (.bool s.pen.re) (λ_=>rfl);refine⟨_,rfl,HC.out.1.trans (k.toBelow HC.out.1.size (λi hi e=>by have:=HM.out;omega)),?_⟩;have:=zg (zg (zg (zg (zg HC.out.2 0 (.int .i64 s.pen.f)) 1 (.int .i64 b)) 2 (.bool s.pen.bo)) 3 (.bool s.pen.un)) 4 (.bool s.pen.re);exact this
 obtain⟨wE,hwE,belE,bE⟩:=hE;rw[hwE];clear hwE k0 k1 k2 k3 k4 d0 d1 d2 d3 d4 fr;have k0:wE.cell? ⟨M,0,none⟩=some (.int .i64 s.pen.f):=za bE 0;have k1:wE.cell? ⟨M,1,none⟩=some (.int .i64 b):=za bE 1;have k2:wE.cell? ⟨M,2,none⟩=some (.bool s.pen.bo):=za bE 2;have k3:wE.cell? ⟨M,3,none⟩=some (.bool s.pen.un):=za bE 3;have k4:wE.cell? ⟨M,4,none⟩=some (.bool s.pen.re):=za bE 4;clear bE;exact bodyPost_ret (v:=(.agg #[.int .i64 s.pen.f,.int .i64 b,.bool s.pen.bo,.bool s.pen.un,.bool s.pen.re])) (by simp[results,Tryz.results200,go_sem,k0,k1,k2,k3,k4]) rfl ⟨rfl,belE⟩
theorem zpe {s:Rs} (h:s.Fl) {b:Int} (h0:0<=b) (h1:b<=8):(zaR s b).Ok:=⟨h.pen.1,h.pen.2.1,h0,h1⟩
theorem zta (m0 n1 bp po pc:Nat) (lb lc:Nat->Nat) (H:Nat) (P:Nat->Nat->zk) (bs bg g N:Nat) (s:Rs) (l:List UInt8) (n:Int) (w:World) (h:PaM w m0 n1 bp po pc lb lc H P bs bg g N s l) (fl:s.Fl) (n0:n≠0) (na:-100<n) (nb:n<100) (hlen:l.length<=900000):
 Calls Tryz.prog 176 #[.pointer (some ⟨bp,0,none⟩),.int .i64 n] w λe w'=>e=.returned (.tuple #[])/\PaM w' m0 n1 bp po pc lb lc H P bs bg g N (zj s (zab s n)) (l++zab s n)/\Below m0 w w':=by
 have HH:=zH h;have hsl:=zfq fl na nb;have hdef:zab s n=zcD s.pen (zaR s 0)++Zy n 83 84:=rfl;have hok:=zpe fl (b:=0) (by omega) (by omega);have hf1:=zfO fl.B hok;have hf2:=zeI fl n0 na nb;obtain⟨t,pt,tie⟩:=h.ex;have Hm:Hid (m0<=w.heap.size):=by
  have:=h.bd.le;have:=h.bd.lt;have:=h.p0;show _<=_;omega
 have c1:=pt.c1;have HP:=zH pt;obtain⟨pl,hpl⟩:∃pl,zcD s.pen (zaR s 0)=pl:=⟨_,rfl⟩;obtain⟨al,hal⟩:∃al,Zy n 83 84=al:=⟨_,rfl⟩;rw[hdef,hpl,hal] at hsl hf2;rw[hpl] at hf1;rw[hdef,hpl,hal];have Hpl:=zH hpl;have Hal:=zH hal;have Hl:Hid (pl.length+al.length<=10/\l.length<=900000):=⟨by rw[List.length_append] at hsl;exact hsl,hlen⟩;have Hf1:=zH hf1;have Hf2:=zH hf2;have Hok:Hid (s.Fl/\(zaR s 0).Ok):=⟨fl,hok⟩;clear h hsl hdef hok hf1 hf2 pt tie hpl hal hlen fl;go_in;go_wp2_with fail;go_at_call 63;refine(zj7 bs bg g N s t w HP.out.scr).mono ?_;rintro e w1 ⟨rfl,hb1⟩;generalize (decide (t.mode=0)&&decide (t.bn=0))=gb at *;have hsp:=zjq s gb;have HB1:=zH hb1;clear hb1 c1;go_wp2_with fail;go_at_call 200;refine(znF bp po pc lb lc H P bs bg g N s t 0 w1 (HP.out.below HB1.out)).mono ?_;rintro e w2 ⟨rfl,hb2⟩;have HB2:=zH<|HB1.out.trans (hb2.mono HB1.out.size)
 clear hb2 HB1 hsp;go_wp2_with fail;go_at_call 199;refine(zh0 s.pen (zaR s 0) w2 Hok.out.2).mono ?_;rw[Hpl.out];rintro e w3 ⟨rfl,hb3⟩;have HB3:=zH<|HB2.out.trans (hb3.mono HB2.out.size)
 clear hb3 HB2;go_wp2_with fail;go_at_call 198;refine(zjp m0 n1 bp po pc lb lc H P bs bg g N s l pl w3 (HH.out.below HB3.out) Hok.out.1.ok (by have:=Hl.out;omega) (by rw[Hf1.out]) (by rw[Hf1.out])).mono ?_;rintro e w4 ⟨rfl,P4,hb4,_⟩;have HP4:Hid (PaM w4 m0 n1 bp po pc lb lc H P bs bg g N (zj s pl) (l++pl)/\Below m0 w w4):=⟨P4,(HB3.out.mono Hm.out).trans hb4⟩;clear P4 hb4 HB3;go_wp2_with fail;go_at_call 201;refine(zmx n 83 84 w4 na nb).mono ?_;rw[Hal.out];rintro e w5 ⟨rfl,hb5⟩;have HP5:Hid (PaM w5 m0 n1 bp po pc lb lc H P bs bg g N (zj s pl) (l++pl)/\Below m0 w w5):=⟨HP4.out.1.below hb5,HP4.out.2.trans (hb5.mono (by
  have:=HP4.out.1.bd.le;have:=HP4.out.1.bd.lt;have:=HP4.out.1.p0;omega))⟩
 clear hb5 HP4;go_wp2_with fail;go_at_call 198;refine(zjp m0 n1 bp po pc lb lc H P bs bg g N (zj s pl) (l++pl) al w5 HP5.out.1 (zfp pl Hok.out.1.ok) (by have:=Hl.out;rw[List.length_append];omega) (by rw[←ZS,Hf2.out,Hf1.out]) (by rw[←ZS,Hf2.out,Hf1.out])).mono ?_;rintro e w6 ⟨rfl,P6,hb6,_⟩;rw[←ZS,List.append_assoc] at P6;have HP6:Hid (PaM w6 m0 n1 bp po pc lb lc H P bs bg g N (zj s (pl++al)) (l++(pl++al))/\Below m0 w w6):=⟨P6,HP5.out.2.trans hb6⟩;clear P6 hb6;go_wp2_with fail;go_end0;exact⟨rfl,HP6.out⟩
theorem znG (bp po pc:Nat) (lb lc:Nat->Nat) (H:Nat) (P:Nat->Nat->zk) (bs bg g N:Nat) (s:Rs) (t:Pt) (x y n:Nat) (w:World) (h:PtM w bp po pc lb lc H P bs bg g N s t) (ok:s.Ok) (hx:x<s.W) (hy:y<s.H) (h1:1<=n) (hn:y*s.W+x+n<=s.H*s.W):
 Calls Tryz.prog 221 #[.pointer (some ⟨bp,0,none⟩),.int .i64 x,.int .i64 y,.int .i64 n] w λe w'=>e=.returned (.int .i64 (zdJ s P x y n:Nat))/\Below w.heap.size w w':=by
 have HH:=zH h;have hyH:y<H:=by rw[h.hs];exact hy
 have c0:=h.c0;have r0:=h.pic.row y hyH;have hy':(y:Int)<(H:Int):=by omega
 have w2:=ok.w2;have w1:=ok.w1;have hh2:=ok.h2;have hmul:=Nat.mul_le_mul hh2 w2;have hn2:n<=800:=by omega
 have Hn:=zH hn;have HS:Hid (s.W<=40/\1<=s.W/\s.H<=20/\x<s.W/\y<s.H):=⟨w2,w1,hh2,hx,hy⟩;clear h hn hmul;go_in;go_wp2_with fail;go_loopw[3] (λvi wr=>∃m:Nat,vi=.int .i64 m/\1<=m/\m<=n/\zdJ s P x y m=zdJ s P x y n/\Below w.heap.size w wr) (λvi _=>(intOf vi).toNat)
 case atStart=>exact⟨n,rfl,h1,Nat.le_refl _,rfl,Below.refl _ _⟩
 case round=>
  obtain⟨m,rfl,hm1,hm2,hsp,hbw⟩:=hrel;have HB:=zH hbw;have HP:=zH<|HH.out.below hbw
  have Hsp:=zH hsp;clear hbw hsp c0 r0;by_cases hc:m=1
  ·subst hc;go_wp2_with fail;go_quiet (fail);go_wp2_with fail;go_ret;exact⟨by rw[←Hsp.out];rfl,zcM HB.out _⟩
  ·have hm3:2<=m:=by omega
   obtain⟨z,hz⟩:∃z,x+(m-1)=z:=⟨_,rfl⟩;obtain⟨r,hr⟩:∃r,z%s.W=r:=⟨_,rfl⟩;obtain⟨d,hd⟩:∃d,z/s.W=d:=⟨_,rfl⟩;obtain⟨yy,hyy⟩:∃yy,y+d=yy:=⟨_,rfl⟩;have hrl:r<s.W:=by rw[←hr];exact Nat.mod_lt _ w1
   have hyl:yy<s.H:=by
    have a:y*s.W+z<s.H*s.W:=by have:=Hn.out;omega
    have b:=Nat.div_lt_of_lt_mul (by rw[Nat.mul_comm s.W s.H];exact a);rw[Nat.mul_comm y s.W,Nat.mul_add_div w1] at b;omega
   have hdl:d<=1000:=by omega
   have e1:IntKind.i64.wrap ((x:Int)+(m:Int))=(x:Int)+(m:Int):=zm _ (by omega) (by omega);have e2:IntKind.i64.wrap ((x:Int)+(m:Int)-1)=(z:Int):=by rw[zm _ (by omega) (by omega)];omega
   have e3:Int.tmod (z:Int) (s.W:Int)=(r:Int):=by rw[←hr];rfl
   have e4:Int.tdiv (z:Int) (s.W:Int)=(d:Int):=by rw[←hd];rfl
   have e5:IntKind.i64.wrap (d:Int)=(d:Int):=zm _ (by omega) (by omega);have e6:IntKind.i64.wrap ((y:Int)+(d:Int))=(yy:Int):=by rw[zm _ (by omega) (by omega)];omega
   have e7:IntKind.i64.wrap (r:Int)=(r:Int):=zm _ (by omega) (by omega);have e8:IntKind.i64.wrap ((m:Int)-1)=(m:Int)-1:=zm _ (by omega) (by omega);have hW0:¬((s.W:Int)=0):=by omega
   have hW1:¬(s.W=0):=by omega
   have hgt:(1:Int)<(m:Int):=by omega
   have Hstep:Hid (zdJ s P x y m=if ZL s P r yy=true then m else zdJ s P x y (m-1)):=by
    show _=_;obtain⟨j,rfl⟩:∃j,m=j+2:=⟨m-2,by omega⟩;have e:x+(j+1)=z:=hz;rw[zdJ,e,hr,hd,hyy];rfl
   have Hlt:Hid (r<s.W/\yy<s.H):=⟨hrl,hyl⟩;clear hz hr hd hyy hrl hyl w1 w2 hh2 hx hy hc;cases hdf:ZL s P r yy with
   |true=>
    have Hdf:=zH hdf;clear hdf;go_wp2_with fail;go_region_held3 (λ_=>True) (trivial) (first|(go_at_call 177;refine(zig bp po pc lb lc H P bs bg g N s t r yy _ (HP.out.below (by first|exact Below.refl _ _|exact(Below.refl _ _).drew)) Hlt.out.1 Hlt.out.2).mono ?_;rintro e w7 ⟨rfl,hb7⟩;rw[Hdf.out];have hb8:=zL hb7;have HB8:=zH<|hb8;clear hb7 hb8));all_goals
     go_wp2_with fail;go_ret;exact⟨by rw[←Hsp.out,Hstep.out,if_pos Hdf.out];rfl,HB.out.trans (HB8.out.mono HB.out.size)⟩
   |false=>
    have Hdf:=zH hdf;clear hdf;go_wp2_with fail;go_region_held3 (λ_=>True) (trivial) (first|(go_at_call 177;refine(zig bp po pc lb lc H P bs bg g N s t r yy _ (HP.out.below (by first|exact Below.refl _ _|exact(Below.refl _ _).drew)) Hlt.out.1 Hlt.out.2).mono ?_;rintro e w7 ⟨rfl,hb7⟩;rw[Hdf.out];have hb8:=zL hb7;have HB8:=zH<|hb8;clear hb7 hb8));all_goals
     go_wp2_with fail;go_roundw
     case rel=>exact⟨m-1,by first|(go_num;done)|(congr 1;omega),by omega,by omega,by rw[←Hsp.out,Hstep.out,if_neg (by rw[Hdf.out];decide)],HB.out.trans (HB8.out.mono HB.out.size)⟩
     case measure=>simp[intOf];omega
theorem zpf (p:Nat->Bool) (x:Nat):∀m k,zci (λi=>p (x+i)) m k=zci p m (x+k):=by
 intro m;induction m with
 |zero=>intro k;rfl
 |succ m ih=>
  intro k;rw[zci,zci,ih (k+1)];rfl
theorem zlA (P:Nat->Nat->zk) (W x y:Nat):zci (λi=>(P (x+i) y).eqB (P (x+0) y)) (W-x) 0=zaI P W x y:=zpf (λi=>(P i y).eqB (P x y)) x (W-x) 0
theorem zpg (P:Nat->Nat->zk) {W x y:Nat} (hx:x<W):1<=zaI P W x y/\zaI P W x y<=W-x:=by
 refine⟨?_,zmv _ _ _⟩;obtain⟨m,hm⟩:∃m,W-x=m+1:=⟨W-x-1,by omega⟩;unfold zaI;rw[hm,zci,if_pos (zk.eqB_iff.2 rfl)];omega
theorem zrq (bp po pc:Nat) (lb lc:Nat->Nat) (H:Nat) (P:Nat->Nat->zk) (bs bg g N:Nat) (s:Rs) (t:Pt) (x y:Nat) (w:World) (h:PtM w bp po pc lb lc H P bs bg g N s t) (ok:s.Ok) (hx:x<s.W) (hy:y<s.H):
 Calls Tryz.prog 202 #[.pointer (some ⟨bp,0,none⟩),.int .i64 x,.int .i64 y] w λe w'=>e=.returned (zaD (zaQ s P x y))/\Below w.heap.size w w':=by
 have HH:=zH h;have hyH:y<H:=by rw[h.hs];exact hy
 have c0:=h.c0;have r0:=h.pic.row y hyH;obtain⟨a0,a1,a2,a3,a4,a5,a6⟩:=h.pic.cel y x hyH hx;have hy':(y:Int)<(H:Int):=by omega
 have hx':(x:Int)<(s.W:Int):=by omega
 have w2:=ok.w2;have w1:=ok.w1;have hh2:=ok.h2;obtain⟨M,hM⟩:∃M,w.heap.size=M:=⟨_,rfl⟩;have HM:=zH hM;clear h;go_in;go_upto_region 3 with fail
 have hA:∃wA,w.alloc (.cells #[.int .i32 (P x y).r,.int .i64 (P x y).p,.int .i64 (P x y).n.f,.int .i64 (P x y).n.b,.bool (P x y).n.bo,.bool (P x y).n.un,.bool (P x y).n.re] 38)=wA/\Below w.heap.size w wA/\zv wA M 0 (P x y)/\wA.heap.size=M+1:=by
  subst hM;exact⟨_,rfl,(Below.refl _ _).alloc (Nat.le_refl _) _,zcq w (P x y) (P x y).p rfl _,by simp⟩
 obtain⟨wA,hwA,belA,cA,zA⟩:=hA;rw[hwA];obtain⟨b0,b1,b2,b3,b4,b5,b6⟩:=cA;have HA:Hid (PtM wA bp po pc lb lc H P bs bg g N s t/\Below w.heap.size w wA):=⟨HH.out.below belA,belA⟩;have HcA:Hid (zv wA M 0 (P x y)):=⟨b0,b1,b2,b3,b4,b5,b6⟩;simp only[Nat.zero_add] at b0 b1 b2 b3 b4 b5 b6;have hne:=λw=>zcO (P x y) (zi2 (P x y)) w;obtain⟨bk,hbk⟩:∃bk,zi2 (P x y)=bk:=⟨_,rfl⟩;have HBK:Hid (blk (⟨0,(P x y).n.b,false,false,false⟩:Pn)=bk):=hbk;rw[hbk] at hne;have Hbk:=zH hbk;clear hbk;have zM:M<wA.heap.size:=by omega
 clear hwA belA HH c0 r0 a0 a1 a2 a3 a4 a5 a6;cases he:(P x y).eqB bk with
 |false=>
  have He:Hid (zaQ s P x y=[]):=by
   show _=_;unfold zaQ;rw[if_pos (by rw[Hbk.out];exact he)]
  simp only[he,Bool.not_false] at hne;clear he;go_region_held3 (λw'=>w'.cell? ⟨M,0,none⟩=some (.int .i32 (P x y).r)/\w'.cell? ⟨M,1,none⟩=some (.int .i64 (P x y).p)/\w'.cell? ⟨M,2,none⟩=some (.int .i64 (P x y).n.f)/\w'.cell? ⟨M,3,none⟩=some (.int .i64 (P x y).n.b)/\w'.cell? ⟨M,4,none⟩=some (.bool (P x y).n.bo)/\w'.cell? ⟨M,5,none⟩=some (.bool (P x y).n.un)/\w'.cell? ⟨M,6,none⟩=some (.bool (P x y).n.re)) (simp[*]) (first|(go_at_call 147;refine(zes (⟨0,(P x y).n.b,false,false,false⟩:Pn) _).mono ?_;rintro e w7 ⟨rfl,hb7⟩;rw[HBK.out];have hb8:=zL hb7;have e4:=hb8.cells (b:=M) zM;have HB8:=zH<|hb8;clear hb7 hb8));all_goals
   go_wp2_with fail;go_ret;exact⟨by rw[He.out];rfl,HA.out.2.trans (HB8.out.mono HA.out.2.size)⟩
 |true=>
  have He:Hid (zaQ s P x y=if (ze3 P s.W s.H x y).1.length<zdJ s P x y (ze3 P s.W s.H x y).2 then(ze3 P s.W s.H x y).1 else[]):=by
   show _=_;unfold zaQ;rw[if_neg (by rw[Hbk.out,he];decide)]
  simp only[he,Bool.not_true] at hne;clear he;go_cut[28] (λv wc=>v=.bool false/\Below wA.heap.size wA wc)
  case first=>
   go_region_held3 (λw'=>w'.cell? ⟨M,0,none⟩=some (.int .i32 (P x y).r)/\w'.cell? ⟨M,1,none⟩=some (.int .i64 (P x y).p)/\w'.cell? ⟨M,2,none⟩=some (.int .i64 (P x y).n.f)/\w'.cell? ⟨M,3,none⟩=some (.int .i64 (P x y).n.b)/\w'.cell? ⟨M,4,none⟩=some (.bool (P x y).n.bo)/\w'.cell? ⟨M,5,none⟩=some (.bool (P x y).n.un)/\w'.cell? ⟨M,6,none⟩=some (.bool (P x y).n.re)) (simp[*]) (first|(go_at_call 147;refine(zes (⟨0,(P x y).n.b,false,false,false⟩:Pn) _).mono ?_;rintro e w7 ⟨rfl,hb7⟩;rw[HBK.out];have hb8:=zL hb7;have e4:=hb8.cells (b:=M) zM;have HB8:=zH<|hb8;clear hb7 hb8));all_goals
    go_wp2_with fail;go_meet
    case rel=>exact⟨rfl,HB8.out⟩
  case rest=>
   obtain⟨rfl,hbc⟩:=hcut;have HC:Hid (PtM wc bp po pc lb lc H P bs bg g N s t/\Below w.heap.size w wc):=⟨HA.out.1.below hbc,HA.out.2.trans (hbc.mono HA.out.2.size)⟩;have HcC:=zH<|HcA.out.below hbc zM
   clear hbc HA HcA b0 b1 b2 b3 b4 b5 b6 hne;go_wp2_with fail;go_at_call 216;refine sM (zuv wc 75) ?_;have hcap:=HC.out.1.pic.cap y hyH;have hcap':(s.W:Int)<=(lc y:Int):=by omega
   have hxl:(x:Int)<=(s.W:Int):=by omega
   go_wp2_with fail;go_at_call 219;have hq:=zrl (lb y) (x*7) (s.W-x) (lc y-x) (λi=>P (x+i) y) wc (λi hi=>by rw[←Nat.add_mul];exact HC.out.1.pic.cel y (x+i) hyH (by omega)) (by omega);rw[zlA] at hq;refine hq.mono ?_;rintro e wD ⟨rfl,q,rfl⟩;have HD:Hid (PtM (wc.drewN q) bp po pc lb lc H P bs bg g N s t/\Below w.heap.size w (wc.drewN q)/\zv (wc.drewN q) M 0 (P x y)):=⟨HC.out.1.below (Zc wc q),zcM HC.out.2 q,HcC.out.drewN q⟩;generalize wc.drewN q=wD at HD ⊢;obtain⟨hal1,hal2⟩:=zpg P (y:=y) hx;obtain⟨al,hal⟩:∃al,zaI P s.W x y=al:=⟨_,rfl⟩;have Hal:=zH hal;rw[hal] at hal1 hal2 ⊢;clear hq hal HC HcC hcap hcap' hxl;have e1:IntKind.i64.wrap ((x:Int)+(al:Int))=(x:Int)+(al:Int):=zm _ (by omega) (by omega);have hrow:(y+1)*s.W<=s.H*s.W:=Nat.mul_le_mul_right _ hy;rw[Nat.succ_mul] at hrow;by_cases hA1:x+al<s.W
   ·have hA2:(x:Int)+(al:Int)<(s.W:Int):=by omega
    have HK:Hid (ze3 P s.W s.H x y=(zaP 88 [zb7 al],al)):=by
     show _=_;unfold ze3;rw[Hal.out,if_pos hA1]
    have Hfit:Hid (y*s.W+x+al<=s.H*s.W):=by show _<=_;omega
    have Htk:Hid (zbN [zb7 al]):=ZD (by omega) (by intro t ht;cases ht);clear hrow;go_wp2_with fail;go_at_call 218;refine sM (zhZ al (by omega) (by omega) wD) ?_;go_wp2_with fail;go_at_call 216;refine(zsN wD 88 (zb7 al) Htk.out).mono ?_;rintro e wF ⟨rfl,hbF⟩;have HF:Hid (PtM wF bp po pc lb lc H P bs bg g N s t/\Below w.heap.size w wF):=⟨HD.out.1.below hbF,HD.out.2.1.trans (hbF.mono HD.out.2.1.size)⟩;clear hbF;go_wp2_with fail;go_at_call 221;refine(znG bp po pc lb lc H P bs bg g N s t x y al wF HF.out.1 ok hx hy (by omega) Hfit.out).mono ?_;rintro e wG ⟨rfl,hbG⟩;have HG:=zH<|HF.out.2.trans (hbG.mono HF.out.2.size)
    have HE2:=He.out;rw[HK.out] at HE2;obtain⟨sq,hsq⟩:∃sq,zaP 88 [zb7 al]=sq:=⟨_,rfl⟩;simp only[] at HE2;rw[hsq] at HE2 ⊢;obtain⟨sn,hsn⟩:∃sn,zdJ s P x y (al)=sn:=⟨_,rfl⟩;rw[hsn] at HE2 ⊢;have HE3:=zH HE2;have e2:((({data:=sq.toArray}:ByteArray).size:Nat):Int)=(sq.length:Int):=rfl;clear hbG HE2 hsq hsn He;by_cases hls:sq.length<sn
    ·have hls':(sq.length:Int)<(sn:Int):=by omega
     go_wp2_with fail;go_ret;exact⟨by rw[HE3.out,if_pos hls];rfl,HG.out⟩
    ·have hls':¬((sq.length:Int)<(sn:Int)):=by omega
     go_wp2_with fail;go_ret;exact⟨by rw[HE3.out,if_neg hls];rfl,HG.out⟩
   ·have hA2:¬((x:Int)+(al:Int)<(s.W:Int)):=by omega
    have eHs:=HD.out.1.hs;have HpH:Hid (H<=pc/\H=s.H):=⟨HD.out.1.hpc,eHs⟩;have hpc:=HD.out.1.hpc;have hpc':(H:Int)<=(pc:Int):=by omega
    obtain⟨y1,hy1⟩:∃y1,y+1=y1:=⟨_,rfl⟩;have e3:IntKind.i64.wrap ((y:Int)+1)=(y1:Int):=by rw[zm _ (by omega) (by omega)];omega
    have hy2:(y1:Int)<=(H:Int):=by omega
    have hy3:(0:Int)<=(y1:Int):=by omega
    have Hy1:=zH hy1;have c0:=HD.out.1.c0;have zM2:=HD.out.2.2.lt;have zB2:=World.block_lt_of_cell? _ _ c0;obtain⟨b0,b1,b2,b3,b4,b5,b6⟩:=HD.out.2.2;simp only[Nat.zero_add] at b0 b1 b2 b3 b4 b5 b6;cases hib:zdt P s.W H y1 (P x y) with
    |false=>
     have HIB:=zH hib;have HK:Hid (ze3 P s.W s.H x y=(zaP 75 [],al)):=by
      show _=_;unfold ze3;rw[Hal.out,if_neg hA1,←eHs,Hy1.out,if_neg (by rw[hib];decide)]
     have Hfit:Hid (y*s.W+x+al<=s.H*s.W):=by show _<=_;omega
     have hyl:y1<H:=by
      rcases Nat.lt_or_ge y1 H with q|q
      ·exact q
      ·have:zdt P s.W H y1 (P x y)=true:=by
        unfold zdt;rw[show H-y1=0 by omega];rfl
       rw[this] at hib;cases hib
     have hyp:y1<pc:=by omega
     have hyp':(y1:Int)<(pc:Int):=by omega
     have hyn:¬pc=y1:=by omega
     have hy0:¬y1=0:=by omega
     clear hib hrow hy1 eHs hyp hyl hpc hpc' hyp';go_wp2_with fail;go_region_held3 (λw'=>w'.cell? ⟨M,0,none⟩=some (.int .i32 (P x y).r)/\w'.cell? ⟨M,1,none⟩=some (.int .i64 (P x y).p)/\w'.cell? ⟨M,2,none⟩=some (.int .i64 (P x y).n.f)/\w'.cell? ⟨M,3,none⟩=some (.int .i64 (P x y).n.b)/\w'.cell? ⟨M,4,none⟩=some (.bool (P x y).n.bo)/\w'.cell? ⟨M,5,none⟩=some (.bool (P x y).n.un)/\w'.cell? ⟨M,6,none⟩=some (.bool (P x y).n.re)/\w'.cell? ⟨bp,0,none⟩=some (.slice (some ⟨po,0,none⟩) H pc)) (simp[*]) (first|(go_at_call 220;refine(zmL po y1 y1 (H-y1) (pc-y1) lb lc s.W H P (P x y) _ (HD.out.1.pic.below (by first|exact Below.refl _ _|exact(Below.refl _ _).drew)) (by omega) w1 (by omega) (by have:=HpH.out.2;omega) (.inr rfl)).mono ?_;rintro e wF ⟨rfl,hb7⟩;rw[HIB.out];have hb8:=zL hb7;have e4:=hb8.cells (b:=M) zM2;have e5:=hb8.cells (b:=bp) zB2;have HF:Hid (PtM wF bp po pc lb lc H P bs bg g N s t/\Below w.heap.size w wF):=⟨HD.out.1.below hb8,HD.out.2.1.trans (hb8.mono HD.out.2.1.size)⟩;clear hb7 hb8));all_goals
      clear c0 b0 b1 b2 b3 b4 b5 b6;go_wp2_with fail;go_at_call 221;refine(znG bp po pc lb lc H P bs bg g N s t x y al wF HF.out.1 ok hx hy (by omega) Hfit.out).mono ?_;rintro e wG ⟨rfl,hbG⟩;have HG:=zH<|HF.out.2.trans (hbG.mono HF.out.2.size)
      have HE2:=He.out;rw[HK.out] at HE2;obtain⟨sq,hsq⟩:∃sq,zaP 75 []=sq:=⟨_,rfl⟩;simp only[] at HE2;rw[hsq] at HE2 ⊢;obtain⟨sn,hsn⟩:∃sn,zdJ s P x y (al)=sn:=⟨_,rfl⟩;rw[hsn] at HE2 ⊢;have HE3:=zH HE2;have e2:((({data:=sq.toArray}:ByteArray).size:Nat):Int)=(sq.length:Int):=rfl;clear hbG HE2 hsq hsn He;by_cases hls:sq.length<sn
      ·have hls':(sq.length:Int)<(sn:Int):=by omega
       go_wp2_with fail;go_ret;exact⟨by rw[HE3.out,if_pos hls];rfl,HG.out⟩
      ·have hls':¬((sq.length:Int)<(sn:Int)):=by omega
       go_wp2_with fail;go_ret;exact⟨by rw[HE3.out,if_neg hls];rfl,HG.out⟩
    |true=>
     have HIB:=zH hib;obtain⟨pr,hpr⟩:∃pr,s.W*(H-y1)=pr:=⟨_,rfl⟩;have HK:Hid (ze3 P s.W s.H x y=(zaP 74 [],al+pr)):=by
      show _=_;unfold ze3;rw[Hal.out,if_neg hA1,←eHs,Hy1.out,if_pos hib,hpr]
     have Hfit:Hid (y*s.W+x+(al+pr)<=s.H*s.W):=by
      show _<=_;have e5:s.H*s.W=(y+1)*s.W+(H-y1)*s.W:=by rw[←Nat.add_mul,←eHs];congr 1;omega
      rw[e5,Nat.succ_mul,Nat.mul_comm (H-y1) s.W,hpr];omega
     have hpr2:pr<=40*20:=by rw[←hpr];exact Nat.mul_le_mul w2 (by omega)
     have e6:IntKind.i64.wrap ((s.W:Int)*((H-y1:Nat):Int))=(pr:Int):=by rw[←hpr,zm _ (by rw[←Int.natCast_mul,hpr];omega) (by rw[←Int.natCast_mul,hpr];omega),Int.natCast_mul]
     have e7:IntKind.i64.wrap ((al:Int)+(pr:Int))=((al+pr:Nat):Int):=by
      generalize pr=pr' at hpr2;clear e6 e1;rw[zm _ (by omega) (by omega)];omega
     have Hpr:Hid (s.W*(H-y1)=pr/\y1<=H):=⟨hpr,by omega⟩;clear hib hrow hy1 hpr;by_cases hyq:y1<pc
     ·have hyn:¬pc=y1:=by omega
      have hy0:¬y1=0:=by have:=Hy1.out;omega
      clear hyq eHs hpc hpc';go_wp2_with fail;go_region_held3 (λw'=>w'.cell? ⟨M,0,none⟩=some (.int .i32 (P x y).r)/\w'.cell? ⟨M,1,none⟩=some (.int .i64 (P x y).p)/\w'.cell? ⟨M,2,none⟩=some (.int .i64 (P x y).n.f)/\w'.cell? ⟨M,3,none⟩=some (.int .i64 (P x y).n.b)/\w'.cell? ⟨M,4,none⟩=some (.bool (P x y).n.bo)/\w'.cell? ⟨M,5,none⟩=some (.bool (P x y).n.un)/\w'.cell? ⟨M,6,none⟩=some (.bool (P x y).n.re)/\w'.cell? ⟨bp,0,none⟩=some (.slice (some ⟨po,0,none⟩) H pc)) (simp[*]) (first|(go_at_call 220;refine(zmL po y1 y1 (H-y1) (pc-y1) lb lc s.W H P (P x y) _ (HD.out.1.pic.below (by first|exact Below.refl _ _|exact(Below.refl _ _).drew)) (by omega) w1 (by omega) (by have:=HpH.out.2;omega) (.inr rfl)).mono ?_;rintro e wF ⟨rfl,hb7⟩;rw[HIB.out];have hb8:=zL hb7;have e4:=hb8.cells (b:=M) zM2;have e5:=hb8.cells (b:=bp) zB2;have HF:Hid (PtM wF bp po pc lb lc H P bs bg g N s t/\Below w.heap.size w wF):=⟨HD.out.1.below hb8,HD.out.2.1.trans (hb8.mono HD.out.2.1.size)⟩;clear hb7 hb8));all_goals
       have c0:=HF.out.1.c0;clear b0 b1 b2 b3 b4 b5 b6;go_wp2_with fail;go_at_call 216;refine sM (zuv wF 74) ?_;clear c0;go_wp2_with fail;go_at_call 221;refine(znG bp po pc lb lc H P bs bg g N s t x y (al+pr) wF HF.out.1 ok hx hy (by omega) Hfit.out).mono ?_;rintro e wG ⟨rfl,hbG⟩;have HG:=zH<|HF.out.2.trans (hbG.mono HF.out.2.size)
       have HE2:=He.out;rw[HK.out] at HE2;obtain⟨sq,hsq⟩:∃sq,zaP 74 []=sq:=⟨_,rfl⟩;simp only[] at HE2;rw[hsq] at HE2 ⊢;obtain⟨sn,hsn⟩:∃sn,zdJ s P x y (al+pr)=sn:=⟨_,rfl⟩;rw[hsn] at HE2 ⊢;have HE3:=zH HE2;have e2:((({data:=sq.toArray}:ByteArray).size:Nat):Int)=(sq.length:Int):=rfl;clear hbG HE2 hsq hsn He;by_cases hls:sq.length<sn
       ·have hls':(sq.length:Int)<(sn:Int):=by omega
        go_wp2_with fail;go_ret;exact⟨by rw[HE3.out,if_pos hls];rfl,HG.out⟩
       ·have hls':¬((sq.length:Int)<(sn:Int)):=by omega
        go_wp2_with fail;go_ret;exact⟨by rw[HE3.out,if_neg hls];rfl,HG.out⟩
     ·have hyn:pc=y1:=by omega
      have hyz:H-y1=0:=by omega
      have HYz:=zH hyz;subst hyn;clear hyq eHs hpc hpc' hyz;go_wp2_with fail;go_region_held3 (λw'=>w'.cell? ⟨M,0,none⟩=some (.int .i32 (P x y).r)/\w'.cell? ⟨M,1,none⟩=some (.int .i64 (P x y).p)/\w'.cell? ⟨M,2,none⟩=some (.int .i64 (P x y).n.f)/\w'.cell? ⟨M,3,none⟩=some (.int .i64 (P x y).n.b)/\w'.cell? ⟨M,4,none⟩=some (.bool (P x y).n.bo)/\w'.cell? ⟨M,5,none⟩=some (.bool (P x y).n.un)/\w'.cell? ⟨M,6,none⟩=some (.bool (P x y).n.re)/\w'.cell? ⟨bp,0,none⟩=some (.slice (some ⟨po,0,none⟩) H pc)) (simp[*]) (first|(go_at_call 220;refine(zmL po 0 pc (H-pc) 0 lb lc s.W H P (P x y) _ (HD.out.1.pic.below (by first|exact Below.refl _ _|exact(Below.refl _ _).drew)) (by omega) w1 (by omega) (by have:=HpH.out.2;omega) (.inl HYz.out)).mono ?_;rintro e wF ⟨rfl,hb7⟩;rw[HIB.out];have hb8:=zL hb7;have e4:=hb8.cells (b:=M) zM2;have e5:=hb8.cells (b:=bp) zB2;have HF:Hid (PtM wF bp po pc lb lc H P bs bg g N s t/\Below w.heap.size w wF):=⟨HD.out.1.below hb8,HD.out.2.1.trans (hb8.mono HD.out.2.1.size)⟩;clear hb7 hb8));all_goals
       have c0:=HF.out.1.c0;clear b0 b1 b2 b3 b4 b5 b6;go_wp2_with fail;go_at_call 216;refine sM (zuv wF 74) ?_;clear c0;go_wp2_with fail;go_at_call 221;refine(znG bp po pc lb lc H P bs bg g N s t x y (al+pr) wF HF.out.1 ok hx hy (by omega) Hfit.out).mono ?_;rintro e wG ⟨rfl,hbG⟩;have HG:=zH<|HF.out.2.trans (hbG.mono HF.out.2.size)
       have HE2:=He.out;rw[HK.out] at HE2;obtain⟨sq,hsq⟩:∃sq,zaP 74 []=sq:=⟨_,rfl⟩;simp only[] at HE2;rw[hsq] at HE2 ⊢;obtain⟨sn,hsn⟩:∃sn,zdJ s P x y (al+pr)=sn:=⟨_,rfl⟩;rw[hsn] at HE2 ⊢;have HE3:=zH HE2;have e2:((({data:=sq.toArray}:ByteArray).size:Nat):Int)=(sq.length:Int):=rfl;clear hbG HE2 hsq hsn He;by_cases hls:sq.length<sn
       ·have hls':(sq.length:Int)<(sn:Int):=by omega
        go_wp2_with fail;go_ret;exact⟨by rw[HE3.out,if_pos hls];rfl,HG.out⟩
       ·have hls':¬((sq.length:Int)<(sn:Int)):=by omega
        go_wp2_with fail;go_ret;exact⟨by rw[HE3.out,if_neg hls];rfl,HG.out⟩
def zbz (s:Rs) (P:Nat->Nat->zk) (n:Int) (i:Nat):Bool:=!(zcz s (i%s.W) ((i/s.W:Nat)+n)).eqB (P (i%s.W) (i/s.W))
theorem zmM (s:Rs) (P:Nat->Nat->zk) (n:Int):ZA s P n=za0 (zbz s P n) (s.H*s.W):=rfl
theorem zlB (s:Rs) (P:Nat->Nat->zk) (n:Int) {x y:Nat} (hx:x<s.W):zbz s P n (y*s.W+x) = !(zcz s x ((y:Int)+n)).eqB (P x y):=by
 unfold zbz;rw[Nat.add_comm,Nat.add_mul_mod_self_right,Nat.mod_eq_of_lt hx,Nat.add_mul_div_right _ _ (by omega),Nat.div_eq_of_lt hx,Nat.zero_add]
theorem zii (p:Nat->Bool) (i:Nat):za0 p (i+1)=za0 p i+(if p i=true then 1 else 0):=rfl
theorem zbE (w:World) (c:zk) (T:TypeId) (hT:T=38):∃wA,w.alloc (.cells #[.int .i32 c.r,.int .i64 c.p,.int .i64 c.n.f,.int .i64 c.n.b,.bool c.n.bo,.bool c.n.un,.bool c.n.re] T)=wA/\Below w.heap.size w wA/\zv wA w.heap.size 0 c/\wA.heap.size=w.heap.size+1/\(∀o,wA.frozen? ⟨w.heap.size,o,none⟩=false):=by
 subst hT;exact⟨_,rfl,(Below.refl _ _).alloc (Nat.le_refl _) _,zcq w c c.p rfl _,by simp,ze (zf _ _)⟩
theorem ztb (bs bg g N:Nat) (s:Rs) (t:Pt) (po pc:Nat) (lb lc:Nat->Nat) (H:Nat) (P:Nat->Nat->zk) (n:Int) (w:World) (hp:zh w bs bg g N s t) (pic:PcM w po lb lc s.W H P) (hs:H=s.H) (ok:s.Ok) (na:-100<n) (nb:n<100):
 Calls Tryz.prog 180 #[.pointer (some ⟨bs,0,none⟩),.slice (some ⟨po,0,none⟩) H pc,.int .i64 n] w λe w'=>e=.returned (.int .i64 (ZA s P n:Nat))/\Below w.heap.size w w':=by
 have HH:Hid (zh w bs bg g N s t/\PcM w po lb lc s.W H P):=⟨hp,pic⟩;have w1:=ok.w1;have w2:=ok.w2;have h2:=ok.h2;have hH:H<=20:=by omega
 have hmul:=Nat.mul_le_mul hH w2;have Hs:=zH hs;have Hcnt:Hid (∀i,za0 (zbz s P n) i<=i):=zd7 _;obtain⟨blk0,hblk0⟩:∃c,blk Pn.plain=c:=⟨_,rfl⟩;have Hblk:=zH hblk0;clear hp pic hs ok h2 hblk0;go_in;go_wp2_with fail;go_loopw[15,7] (λvi vs wr=>∃y:Nat,vi=.int .i64 y/\y<=H/\vs=.int .i64 (za0 (zbz s P n) (y*s.W):Nat)/\Below w.heap.size w wr) (λvi _ _=>H-(intOf vi).toNat)
 case atStart=>exact⟨0,rfl,Nat.zero_le _,by simp[za0],Below.refl _ _⟩
 case round=>
  obtain⟨y,rfl,hy,rfl,hbw⟩:=hrel;have HB:=zH hbw;clear hbw;by_cases hc:y<H
  ·have hc':(y:Int)<(H:Int):=by omega
   have r0:=(HH.out.2.below HB.out).row y hc;go_wp2_with fail;go_loopw[22,7] (λvi vs wi=>∃x:Nat,vi=.int .i64 x/\x<=s.W/\vs=.int .i64 (za0 (zbz s P n) (y*s.W+x):Nat)/\Below w.heap.size w wi) (λvi _ _=>s.W-(intOf vi).toNat)
   case atStart=>exact⟨0,rfl,Nat.zero_le _,rfl,HB.out⟩
   case round=>
    obtain⟨x,rfl,hx,rfl,hbi⟩:=hrel;have HBi:=zH hbi;have HPi:Hid (zh wr bs bg g N s t/\PcM wr po lb lc s.W H P):=⟨HH.out.1.below hbi,HH.out.2.below hbi⟩;have hyW:y*s.W+s.W<=H*s.W:=by rw[←Nat.succ_mul];exact Nat.mul_le_mul_right _ hc
    clear hbi r0;by_cases hxc:x<s.W
    ·have hxc':(x:Int)<(s.W:Int):=by omega
     obtain⟨a0,a1,a2,a3,a4,a5,a6⟩:=HPi.out.2.cel y x hc hxc;have hcl:=Hcnt.out (y*s.W+x);have Hnx:Hid (za0 (zbz s P n) (y*s.W+(x+1))=za0 (zbz s P n) (y*s.W+x)+(if (!(zcz s x ((y:Int)+n)).eqB (P x y))=true then 1 else 0)):=by
      show _=_;rw[←Nat.add_assoc,zii,zlB s P n hxc]
     obtain⟨sm,hsm⟩:∃sm,za0 (zbz s P n) (y*s.W+x)=sm:=⟨_,rfl⟩;have hsl:sm<=800:=by omega
     rw[hsm] at Hnx ⊢;have Hyx:Hid (y<H/\x<s.W):=⟨hc,hxc⟩;have hy2:(y:Int)<=20:=by omega
     have hy0:(0:Int)<=(y:Int):=by omega
     clear hcl hsm hyW hmul hH hc hxc hx hy;go_wp2_with fail;obtain⟨wA,hwA,belA,cA,zA,fA⟩:=zbE wr (P x y) _ rfl;rw[hwA];obtain⟨M,hM⟩:∃M,wr.heap.size=M:=⟨_,rfl⟩;rw[hM] at cA zA ⊢;have HA:Hid (Below wr.heap.size wr wA/\zv wA M 0 (P x y)):=⟨belA,cA⟩;clear hwA belA cA fA a0 a1 a2 a3 a4 a5 a6;go_at_call 147;refine(zes (⟨0,0,false,false,false⟩:Pn) wA).mono ?_;rintro e wB ⟨rfl,hbB⟩;have HBK:Hid (blk (⟨0,0,false,false,false⟩:Pn)=blk0):=Hblk.out;rw[HBK.out];have zB:M<wB.heap.size:=by have:=hbB.size;omega
     have HB2:Hid (Below wr.heap.size wr wB/\zv wB M 0 (P x y)):=⟨HA.out.1.trans (hbB.mono HA.out.1.size),HA.out.2.below hbB (by omega)⟩;clear hbB HA zA;go_wp2_with fail;obtain⟨wC,hwC,belC,cC,zC,fC⟩:=zbE wB blk0 _ rfl;rw[hwC];obtain⟨D,hD⟩:∃D,wB.heap.size=D:=⟨_,rfl⟩;rw[hD] at cC zC fC ⊢;have HC:Hid (Below wr.heap.size wr wC/\zv wC M 0 (P x y)/\zv wC D 0 blk0):=⟨HB2.out.1.trans (belC.mono HB2.out.1.size),HB2.out.2.below belC (by omega),cC⟩;have HfC:=zH fC;have hMD:M<D:=by omega
     clear hwC belC cC HB2 fC;go_at_call 121;refine sM (zlt bs bg g N s t x ((y:Int)+n) wC (HPi.out.1.below HC.out.1)) ?_;cases hin:inG s.W s.H x ((y:Int)+n) with
     |false=>
      have Hcr:Hid (zcz s x ((y:Int)+n)=blk0):=by
       show _=_;unfold zcz;rw[if_neg (by rw[hin];decide),Hblk.out]
      obtain⟨p0,p1,p2,p3,p4,p5,p6⟩:=HC.out.2.1;obtain⟨q0,q1,q2,q3,q4,q5,q6⟩:=HC.out.2.2;simp only[Nat.zero_add] at p0 p1 p2 p3 p4 p5 p6 q0 q1 q2 q3 q4 q5 q6;have hne:=λw=>zcO blk0 (P x y) w;clear hin;cases hq:(blk0).eqB (P x y) with
      |true=>
       have Hq:=zH hq;simp only[hq,Bool.not_true] at hne;clear hq;go_wp2_with fail;go_roundw
       case rel=>exact⟨x+1,by go_num,by have:=Hyx.out.2;omega,by rw[Hnx.out,Hcr.out,Hq.out];rfl,HBi.out.trans (HC.out.1.mono HBi.out.size)⟩
       case measure=>simp[intOf];have:=Hyx.out.2;omega
      |false=>
       have Hq:=zH hq;simp only[hq,Bool.not_false] at hne;clear hq;go_wp2_with fail;go_roundw
       case rel=>exact⟨x+1,by go_num,by have:=Hyx.out.2;omega,by rw[Hnx.out,Hcr.out,Hq.out];rfl,HBi.out.trans (HC.out.1.mono HBi.out.size)⟩
       case measure=>simp[intOf];have:=Hyx.out.2;omega
     |true=>
      obtain⟨i0,i1,i2,i3⟩:=zu.1 hin;obtain⟨yy,hyy⟩:=Int.eq_ofNat_of_zero_le i2;have hyy':=hyy;have Hcr:Hid (zcz s x ((y:Int)+n)=s.G x yy):=by
       show _=_;unfold zcz;rw[if_pos hin,hyy',Int.toNat_natCast]
      have e9:IntKind.i64.wrap ((y:Int)+n)=(yy:Int):=by rw[←hyy'];exact zm _ (by omega) (by omega)
      have Hyy:Hid (x<s.W/\yy<s.H):=⟨by omega,by omega⟩;clear hin hyy i0 i1 i2 i3;go_wp2_with fail;go_at_call 122;refine(znC bs bg g N s t x yy wC (HPi.out.1.below HC.out.1) Hyy.out.1 Hyy.out.2).mono ?_;rintro e wD ⟨rfl,hbD⟩;have HD:Hid (Below wr.heap.size wr wD/\zv wD M 0 (P x y)/\zv wD D 0 blk0):=⟨HC.out.1.trans (hbD.mono HC.out.1.size),HC.out.2.1.below hbD HC.out.2.1.lt,HC.out.2.2.below hbD HC.out.2.2.lt⟩;have f0:=λo=>(za4 (hbD.block D HC.out.2.2.lt) o).trans (HfC.out o);obtain⟨cc,hcc⟩:∃cc,s.G x yy=cc:=⟨_,rfl⟩;rw[hcc] at Hcr ⊢;obtain⟨q0,q1,q2,q3,q4,q5,q6⟩:=HD.out.2.2;simp only[Nat.zero_add] at q0 q1 q2 q3 q4 q5 q6;clear hbD HC HfC hcc e9 hyy';go_upto_region 11 with fail
      have hE:∃wE,put7 wD D 0 cc=wE/\zv wE D 0 cc/\zv wE M 0 (P x y)/\Below wr.heap.size wr wE:=by
       refine⟨_,rfl,zai HD.out.2.2,HD.out.2.1.put (by omega),?_⟩;exact HD.out.1.trans (((zd.refl (λi=>i=D) wD).put7 D 0 cc (λ_=>rfl)).toBelow HD.out.1.size (λi hi e=>by omega))
      obtain⟨wE,hwE,cD,cM,belE⟩:=hE;unfold put7 at hwE;simp only[Nat.zero_add] at hwE;rw[hwE];have HE:=zH belE;obtain⟨p0,p1,p2,p3,p4,p5,p6⟩:=cM;clear q0 q1 q2 q3 q4 q5 q6;obtain⟨q0,q1,q2,q3,q4,q5,q6⟩:=cD;simp only[Nat.zero_add] at p0 p1 p2 p3 p4 p5 p6 q0 q1 q2 q3 q4 q5 q6;have hne:=λw=>zcO cc (P x y) w;clear hwE belE HD f0;cases hq:cc.eqB (P x y) with
      |true=>
       have Hq:=zH hq;simp only[hq,Bool.not_true] at hne;clear hq;go_wp2_with fail;go_roundw
       case rel=>exact⟨x+1,by go_num,by have:=Hyx.out.2;omega,by rw[Hnx.out,Hcr.out,Hq.out];rfl,HBi.out.trans (HE.out.mono HBi.out.size)⟩
       case measure=>simp[intOf];have:=Hyx.out.2;omega
      |false=>
       have Hq:=zH hq;simp only[hq,Bool.not_false] at hne;clear hq;go_wp2_with fail;go_roundw
       case rel=>exact⟨x+1,by go_num,by have:=Hyx.out.2;omega,by rw[Hnx.out,Hcr.out,Hq.out];rfl,HBi.out.trans (HE.out.mono HBi.out.size)⟩
       case measure=>simp[intOf];have:=Hyx.out.2;omega
    ·have hxc':¬((x:Int)<(s.W:Int)):=by omega
     have ex:x=s.W:=by omega
     have Hex:=zH ex;have Hy:=zH hc;clear ex;go_wp2_with fail;go_roundw
     case rel=>exact⟨y+1,by go_num,by have:=Hy.out;omega,by rw[Hex.out,Nat.succ_mul],HBi.out⟩
     case measure=>simp[intOf];have:=Hy.out;omega
  ·have hc':¬((y:Int)<(H:Int)):=by omega
   have ey:y=H:=by omega
   have Hey:=zH ey;clear ey;go_wp2_with fail;go_ret;exact⟨by rw[zmM,←Hs.out,Hey.out];rfl,HB.out⟩
end
end Go.Proofs.YtjlfibhbfdckpaaGreatDoor
