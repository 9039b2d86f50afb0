import Derived.Test.YtjlfibhbfdckpaaGreatDoorV40
namespace Go.Proofs.YtjlfibhbfdckpaaGreatDoor
set_option maxHeartbeats 64000000
set_option maxRecDepth 100000
section
open Go.RowKit
attribute [local go_sem ↓] Go.wp_at_zero Go.wp_at_succ
theorem zjq (s:Rs) (gb:Bool) (w:World):(Instr.field 59 (zcs s.W s.H s.x s.y s.pend s.pen s.top s.bot gb) 5).run Tryz.prog w=.ok s.pen.agg w:=by kernel_rfl
theorem znF (bp po pc:Nat) (lb lc:Nat->Nat) (H:Nat) (P:Nat->Nat->zk) (bs bg g N:Nat) (s:Rs) (t:Pt) (b:Int) (w:World) (h:PtM w bp po pc lb lc H P bs bg g N s t):
 Calls Tryz.prog 200 #[.pointer (some ⟨bp,0,none⟩),.int .i64 b] w λe w'=>e=.returned (zaR s b).agg/\Below w.heap.size w w':=by
 have HH:=zH h;have c1:=h.c1;have zb:=World.block_lt_of_cell? _ _ h.c0;obtain⟨M,hM⟩:∃M,w.heap.size=M:=⟨_,rfl⟩;have HM:=zH hM;clear h;go_in;go_upto_region 1 with fail
 have hA:∃wA,w.alloc (.cells #[.int .i64 0,.int .i64 0,.bool false,.bool false,.bool false] 33)=wA/\Below w.heap.size w wA/\wA.heap[M]?=some (.cells #[.int .i64 0,.int .i64 0,.bool false,.bool false,.bool false] 33)/\wA.heap.size=M+1:=by
  subst hM;exact⟨_,rfl,(Below.refl _ _).alloc (Nat.le_refl _) _,zf _ _,by simp⟩
 obtain⟨wA,hwA,belA,bA,zA⟩:=hA;rw[hwA];have c1':=(belA.cells (b:=bp) zb 1).trans c1;have HPA:=zH<|HH.out.scr.below belA
 have HA:=zH belA;have HbA:=zH bA;clear hwA belA bA c1;go_wp2_with fail;go_at_call 63;refine(zj7 bs bg g N s t wA HPA.out).mono ?_;rintro e w1 ⟨rfl,hb1⟩;have HB1:=zH<|HA.out.trans (hb1.mono HA.out.size)
 have b1:=(hb1.block M (by omega)).trans HbA.out;have z1:M<w1.heap.size:=by have:=hb1.size;omega
 clear hb1 HPA HA HbA c1';generalize (decide (t.mode=0)&&decide (t.bn=0))=gb at *;have Hb1:=zH b1;clear b1;have hsp:=zjq s gb;go_upto_region 2 with fail
 have hB:∃wB D,w1.alloc (.cells #[.int .i64 s.pen.f,.int .i64 s.pen.b,.bool s.pen.bo,.bool s.pen.un,.bool s.pen.re] 33)=wB/\w1.heap.size=D/\Below w.heap.size w wB/\wB.heap[M]?=some (.cells #[.int .i64 0,.int .i64 0,.bool false,.bool false,.bool false] 33)/\wB.heap[D]?=some (.cells #[.int .i64 s.pen.f,.int .i64 s.pen.b,.bool s.pen.bo,.bool s.pen.un,.bool s.pen.re] 33):=⟨_,_,rfl,rfl,HB1.out.alloc HB1.out.size _,(zN _ _ z1).trans Hb1.out,zf _ _⟩;obtain⟨wB,D,hwB,hD,belB,bM,bD⟩:=hB;rw[hwB,hD];have hMD:M<D:=by omega
 have fr:=ze bD;have k1:wB.cell? ⟨D,1,none⟩=some (.int .i64 s.pen.b):=za bD 1;have HB:Hid (Below w.heap.size w wB/\wB.heap[M]?=some (.cells #[.int .i64 0,.int .i64 0,.bool false,.bool false,.bool false] 33)/\wB.heap[D]?=some (.cells #[.int .i64 s.pen.f,.int .i64 s.pen.b,.bool s.pen.bo,.bool s.pen.un,.bool s.pen.re] 33)):=⟨belB,bM,bD⟩;clear hwB hD belB bM bD HB1 Hb1 z1;go_upto_region 3 with fail
 have hC:∃wC,wB.setCell ⟨D,1,none⟩ (.int .i64 b)=wC/\Below w.heap.size w wC/\wC.heap[M]?=some (.cells #[.int .i64 0,.int .i64 0,.bool false,.bool false,.bool false] 33)/\wC.heap[D]?=some (.cells #[.int .i64 s.pen.f,.int .i64 b,.bool s.pen.bo,.bool s.pen.un,.bool s.pen.re] 33):=by
  have k:=(zd.refl (λi=>i=D) wB).setCell ⟨D,1,none⟩ (.int .i64 b) (λ_=>rfl);have zM:=(Array.getElem?_eq_some_iff.1 HB.out.2.1).1;refine⟨_,rfl,HB.out.1.trans (k.toBelow HB.out.1.size (λi hi e=>by have:=HM.out;omega)),(k.block M zM (by omega)).trans HB.out.2.1,?_⟩;have:=zg HB.out.2.2 1 (.int .i64 b);exact this
 obtain⟨wC,hwC,belC,bM,bD⟩:=hC;rw[hwC];have HC:Hid (Below w.heap.size w wC/\wC.heap[M]?=some (.cells #[.int .i64 0,.int .i64 0,.bool false,.bool false,.bool false] 33)):=⟨belC,bM⟩;clear fr k1;have fr:=ze bM;have d0:wC.cell? ⟨D,0,none⟩=some (.int .i64 s.pen.f):=za bD 0;have d1:wC.cell? ⟨D,1,none⟩=some (.int .i64 b):=za bD 1;have d2:wC.cell? ⟨D,2,none⟩=some (.bool s.pen.bo):=za bD 2;have d3:wC.cell? ⟨D,3,none⟩=some (.bool s.pen.un):=za bD 3;have d4:wC.cell? ⟨D,4,none⟩=some (.bool s.pen.re):=za bD 4;have k0:wC.cell? ⟨M,0,none⟩=some (.int .i64 0):=za bM 0;have k1:wC.cell? ⟨M,1,none⟩=some (.int .i64 0):=za bM 1;have k2:wC.cell? ⟨M,2,none⟩=some (.bool false):=za bM 2;have k3:wC.cell? ⟨M,3,none⟩=some (.bool false):=za bM 3;have k4:wC.cell? ⟨M,4,none⟩=some (.bool false):=za bM 4;clear hwC belC bM bD HB;go_wp2_with fail;have hE:∃wE,((((wC.setCell ⟨M,0,none⟩ (.int .i64 s.pen.f)).setCell ⟨M,1,none⟩ (.int .i64 b)).setCell ⟨M,2,none⟩ (.bool s.pen.bo)).setCell ⟨M,3,none⟩ (.bool s.pen.un)).setCell ⟨M,4,none⟩ (.bool s.pen.re)=wE/\Below w.heap.size w wE/\wE.heap[M]?=some (.cells #[.int .i64 s.pen.f,.int .i64 b,.bool s.pen.bo,.bool s.pen.un,.bool s.pen.re] 33):=by
  have k:=(((((zd.refl (λi=>i=M) wC).setCell ⟨M,0,none⟩ (.int .i64 s.pen.f) (λ_=>rfl)).setCell ⟨M,1,none⟩ (.int .i64 b) (λ_=>rfl)).setCell ⟨M,2,none⟩ (.bool s.pen.bo) (λ_=>rfl)).setCell ⟨M,3,none⟩ (.bool s.pen.un) (λ_=>rfl)).setCell ⟨M,4,none⟩ (.bool s.pen.re) (λ_=>rfl);refine⟨_,rfl,HC.out.1.trans (k.toBelow HC.out.1.size (λi hi e=>by have:=HM.out;omega)),?_⟩;have:=zg (zg (zg (zg (zg HC.out.2 0 (.int .i64 s.pen.f)) 1 (.int .i64 b)) 2 (.bool s.pen.bo)) 3 (.bool s.pen.un)) 4 (.bool s.pen.re);exact this
 obtain⟨wE,hwE,belE,bE⟩:=hE;rw[hwE];clear hwE k0 k1 k2 k3 k4 d0 d1 d2 d3 d4 fr;have k0:wE.cell? ⟨M,0,none⟩=some (.int .i64 s.pen.f):=za bE 0;have k1:wE.cell? ⟨M,1,none⟩=some (.int .i64 b):=za bE 1;have k2:wE.cell? ⟨M,2,none⟩=some (.bool s.pen.bo):=za bE 2;have k3:wE.cell? ⟨M,3,none⟩=some (.bool s.pen.un):=za bE 3;have k4:wE.cell? ⟨M,4,none⟩=some (.bool s.pen.re):=za bE 4;clear bE;exact bodyPost_ret (v:=(.agg #[.int .i64 s.pen.f,.int .i64 b,.bool s.pen.bo,.bool s.pen.un,.bool s.pen.re])) (by simp[results,Tryz.results200,go_sem,k0,k1,k2,k3,k4]) rfl ⟨rfl,belE⟩
theorem znG (bp po pc:Nat) (lb lc:Nat->Nat) (H:Nat) (P:Nat->Nat->zk) (bs bg g N:Nat) (s:Rs) (t:Pt) (x y n:Nat) (w:World) (h:PtM w bp po pc lb lc H P bs bg g N s t) (ok:s.Ok) (hx:x<s.W) (hy:y<s.H) (h1:1<=n) (hn:y*s.W+x+n<=s.H*s.W):
 Calls Tryz.prog 221 #[.pointer (some ⟨bp,0,none⟩),.int .i64 x,.int .i64 y,.int .i64 n] w λe w'=>e=.returned (.int .i64 (zdJ s P x y n:Nat))/\Below w.heap.size w w':=by
 have HH:=zH h;have hyH:y<H:=by rw[h.hs];exact hy
 have c0:=h.c0;have r0:=h.pic.row y hyH;have hy':(y:Int)<(H:Int):=by omega
 have w2:=ok.w2;have w1:=ok.w1;have hh2:=ok.h2;have hmul:=Nat.mul_le_mul hh2 w2;have hn2:n<=800:=by omega
 have Hn:=zH hn;have HS:Hid (s.W<=40/\1<=s.W/\s.H<=20/\x<s.W/\y<s.H):=⟨w2,w1,hh2,hx,hy⟩;clear h hn hmul;go_in;go_wp2_with fail;go_loopw[3] (λvi wr=>∃m:Nat,vi=.int .i64 m/\1<=m/\m<=n/\zdJ s P x y m=zdJ s P x y n/\Below w.heap.size w wr) (λvi _=>(intOf vi).toNat)
 case atStart=>exact⟨n,rfl,h1,Nat.le_refl _,rfl,Below.refl _ _⟩
 case round=>
  obtain⟨m,rfl,hm1,hm2,hsp,hbw⟩:=hrel;have HB:=zH hbw;have HP:=zH<|HH.out.below hbw
  have Hsp:=zH hsp;clear hbw hsp c0 r0;by_cases hc:m=1
  ·subst hc;go_wp2_with fail;go_quiet (fail);go_wp2_with fail;go_ret;exact⟨by rw[←Hsp.out];rfl,zcM HB.out _⟩
  ·have hm3:2<=m:=by omega
   obtain⟨z,hz⟩:∃z,x+(m-1)=z:=⟨_,rfl⟩;obtain⟨r,hr⟩:∃r,z%s.W=r:=⟨_,rfl⟩;obtain⟨d,hd⟩:∃d,z/s.W=d:=⟨_,rfl⟩;obtain⟨yy,hyy⟩:∃yy,y+d=yy:=⟨_,rfl⟩;have hrl:r<s.W:=by rw[←hr];exact Nat.mod_lt _ w1
   have hyl:yy<s.H:=by
    have a:y*s.W+z<s.H*s.W:=by have:=Hn.out;omega
    have b:=Nat.div_lt_of_lt_mul (by rw[Nat.mul_comm s.W s.H];exact a);rw[Nat.mul_comm y s.W,Nat.mul_add_div w1] at b;omega
   have hdl:d<=1000:=by omega
   have e1:IntKind.i64.wrap ((x:Int)+(m:Int))=(x:Int)+(m:Int):=zm _ (by omega) (by omega);have e2:IntKind.i64.wrap ((x:Int)+(m:Int)-1)=(z:Int):=by rw[zm _ (by omega) (by omega)];omega
   have e3:Int.tmod (z:Int) (s.W:Int)=(r:Int):=by rw[←hr];rfl
   have e4:Int.tdiv (z:Int) (s.W:Int)=(d:Int):=by rw[←hd];rfl
   have e5:IntKind.i64.wrap (d:Int)=(d:Int):=zm _ (by omega) (by omega);have e6:IntKind.i64.wrap ((y:Int)+(d:Int))=(yy:Int):=by rw[zm _ (by omega) (by omega)];omega
   have e7:IntKind.i64.wrap (r:Int)=(r:Int):=zm _ (by omega) (by omega);have e8:IntKind.i64.wrap ((m:Int)-1)=(m:Int)-1:=zm _ (by omega) (by omega);have hW0:¬((s.W:Int)=0):=by omega
   have hW1:¬(s.W=0):=by omega
   have hgt:(1:Int)<(m:Int):=by omega
   have Hstep:Hid (zdJ s P x y m=if ZL s P r yy=true then m else zdJ s P x y (m-1)):=by
    show _=_;obtain⟨j,rfl⟩:∃j,m=j+2:=⟨m-2,by omega⟩;have e:x+(j+1)=z:=hz;rw[zdJ,e,hr,hd,hyy];rfl
   have Hlt:Hid (r<s.W/\yy<s.H):=⟨hrl,hyl⟩;clear hz hr hd hyy hrl hyl w1 w2 hh2 hx hy hc;cases hdf:ZL s P r yy with
   |true=>
    have Hdf:=zH hdf;clear hdf;go_wp2_with fail;go_region_held3 (λ_=>True) (trivial) (first|(go_at_call 177;refine(zig bp po pc lb lc H P bs bg g N s t r yy _ (HP.out.below (by first|exact Below.refl _ _|exact(Below.refl _ _).drew)) Hlt.out.1 Hlt.out.2).mono ?_;rintro e w7 ⟨rfl,hb7⟩;rw[Hdf.out];have hb8:=zL hb7;have HB8:=zH<|hb8;clear hb7 hb8));all_goals
     go_wp2_with fail;go_ret;exact⟨by rw[←Hsp.out,Hstep.out,if_pos Hdf.out];rfl,HB.out.trans (HB8.out.mono HB.out.size)⟩
   |false=>
    have Hdf:=zH hdf;clear hdf;go_wp2_with fail;go_region_held3 (λ_=>True) (trivial) (first|(go_at_call 177;refine(zig bp po pc lb lc H P bs bg g N s t r yy _ (HP.out.below (by first|exact Below.refl _ _|exact(Below.refl _ _).drew)) Hlt.out.1 Hlt.out.2).mono ?_;rintro e w7 ⟨rfl,hb7⟩;rw[Hdf.out];have hb8:=zL hb7;have HB8:=zH<|hb8;clear hb7 hb8));all_goals
     go_wp2_with fail;go_roundw
     case rel=>exact⟨m-1,by first|(go_num;done)|(congr 1;omega),by omega,by omega,by rw[←Hsp.out,Hstep.out,if_neg (by rw[Hdf.out];decide)],HB.out.trans (HB8.out.mono HB.out.size)⟩
     case measure=>simp[intOf];omega
theorem zpf (p:Nat->Bool) (x:Nat):∀m k,zci (λi=>p (x+i)) m k=zci p m (x+k):=by
 intro m;induction m with
 |zero=>intro k;rfl
 |succ m ih=>
  intro k;rw[zci,zci,ih (k+1)];rfl
theorem zlA (P:Nat->Nat->zk) (W x y:Nat):zci (λi=>(P (x+i) y).eqB (P (x+0) y)) (W-x) 0=zaI P W x y:=zpf (λi=>(P i y).eqB (P x y)) x (W-x) 0
theorem zpg (P:Nat->Nat->zk) {W x y:Nat} (hx:x<W):1<=zaI P W x y/\zaI P W x y<=W-x:=by
 refine⟨?_,zmv _ _ _⟩;obtain⟨m,hm⟩:∃m,W-x=m+1:=⟨W-x-1,by omega⟩;unfold zaI;rw[hm,zci,if_pos (zk.eqB_iff.2 rfl)];omega
theorem zrq (bp po pc:Nat) (lb lc:Nat->Nat) (H:Nat) (P:Nat->Nat->zk) (bs bg g N:Nat) (s:Rs) (t:Pt) (x y:Nat) (w:World) (h:PtM w bp po pc lb lc H P bs bg g N s t) (ok:s.Ok) (hx:x<s.W) (hy:y<s.H):
 Calls Tryz.prog 202 #[.pointer (some ⟨bp,0,none⟩),.int .i64 x,.int .i64 y] w λe w'=>e=.returned (zaD (zaQ s P x y))/\Below w.heap.size w w':=by
 have HH:=zH h;have hyH:y<H:=by rw[h.hs];exact hy
 have c0:=h.c0;have r0:=h.pic.row y hyH;obtain⟨a0,a1,a2,a3,a4,a5,a6⟩:=h.pic.cel y x hyH hx;have hy':(y:Int)<(H:Int):=by omega
 have hx':(x:Int)<(s.W:Int):=by omega
 have w2:=ok.w2;have w1:=ok.w1;have hh2:=ok.h2;obtain⟨M,hM⟩:∃M,w.heap.size=M:=⟨_,rfl⟩;have HM:=zH hM;clear h;go_in;go_upto_region 3 with fail
 have hA:∃wA,w.alloc (.cells #[.int .i32 (P x y).r,.int .i64 (P x y).p,.int .i64 (P x y).n.f,.int .i64 (P x y).n.b,.bool (P x y).n.bo,.bool (P x y).n.un,.bool (P x y).n.re] 38)=wA/\Below w.heap.size w wA/\zv wA M 0 (P x y)/\wA.heap.size=M+1:=by
  subst hM;exact⟨_,rfl,(Below.refl _ _).alloc (Nat.le_refl _) _,zcq w (P x y) (P x y).p rfl _,by simp⟩
 obtain⟨wA,hwA,belA,cA,zA⟩:=hA;rw[hwA];obtain⟨b0,b1,b2,b3,b4,b5,b6⟩:=cA;have HA:Hid (PtM wA bp po pc lb lc H P bs bg g N s t/\Below w.heap.size w wA):=⟨HH.out.below belA,belA⟩;have HcA:Hid (zv wA M 0 (P x y)):=⟨b0,b1,b2,b3,b4,b5,b6⟩;simp only[Nat.zero_add] at b0 b1 b2 b3 b4 b5 b6;have hne:=λw=>zcO (P x y) (zi2 (P x y)) w;obtain⟨bk,hbk⟩:∃bk,zi2 (P x y)=bk:=⟨_,rfl⟩;have HBK:Hid (blk (⟨0,(P x y).n.b,false,false,false⟩:Pn)=bk):=hbk;rw[hbk] at hne;have Hbk:=zH hbk;clear hbk;have zM:M<wA.heap.size:=by omega
 clear hwA belA HH c0 r0 a0 a1 a2 a3 a4 a5 a6;cases he:(P x y).eqB bk with
 |false=>
  have He:Hid (zaQ s P x y=[]):=by
   show _=_;unfold zaQ;rw[if_pos (by rw[Hbk.out];exact he)]
  simp only[he,Bool.not_false] at hne;clear he;go_region_held3 (λw'=>w'.cell? ⟨M,0,none⟩=some (.int .i32 (P x y).r)/\w'.cell? ⟨M,1,none⟩=some (.int .i64 (P x y).p)/\w'.cell? ⟨M,2,none⟩=some (.int .i64 (P x y).n.f)/\w'.cell? ⟨M,3,none⟩=some (.int .i64 (P x y).n.b)/\w'.cell? ⟨M,4,none⟩=some (.bool (P x y).n.bo)/\w'.cell? ⟨M,5,none⟩=some (.bool (P x y).n.un)/\w'.cell? ⟨M,6,none⟩=some (.bool (P x y).n.re)) (simp[*]) (first|(go_at_call 147;refine(zes (⟨0,(P x y).n.b,false,false,false⟩:Pn) _).mono ?_;rintro e w7 ⟨rfl,hb7⟩;rw[HBK.out];have hb8:=zL hb7;have e4:=hb8.cells (b:=M) zM;have HB8:=zH<|hb8;clear hb7 hb8));all_goals
   go_wp2_with fail;go_ret;exact⟨by rw[He.out];rfl,HA.out.2.trans (HB8.out.mono HA.out.2.size)⟩
 |true=>
  have He:Hid (zaQ s P x y=if (ze3 P s.W s.H x y).1.length<zdJ s P x y (ze3 P s.W s.H x y).2 then(ze3 P s.W s.H x y).1 else[]):=by
   show _=_;unfold zaQ;rw[if_neg (by rw[Hbk.out,he];decide)]
  simp only[he,Bool.not_true] at hne;clear he;go_cut[28] (λv wc=>v=.bool false/\Below wA.heap.size wA wc)
  case first=>
   go_region_held3 (λw'=>w'.cell? ⟨M,0,none⟩=some (.int .i32 (P x y).r)/\w'.cell? ⟨M,1,none⟩=some (.int .i64 (P x y).p)/\w'.cell? ⟨M,2,none⟩=some (.int .i64 (P x y).n.f)/\w'.cell? ⟨M,3,none⟩=some (.int .i64 (P x y).n.b)/\w'.cell? ⟨M,4,none⟩=some (.bool (P x y).n.bo)/\w'.cell? ⟨M,5,none⟩=some (.bool (P x y).n.un)/\w'.cell? ⟨M,6,none⟩=some (.bool (P x y).n.re)) (simp[*]) (first|(go_at_call 147;refine(zes (⟨0,(P x y).n.b,false,false,false⟩:Pn) _).mono ?_;rintro e w7 ⟨rfl,hb7⟩;rw[HBK.out];have hb8:=zL hb7;have e4:=hb8.cells (b:=M) zM;have HB8:=zH<|hb8;clear hb7 hb8));all_goals
    go_wp2_with fail;go_meet
    case rel=>exact⟨rfl,HB8.out⟩
  case rest=>
   obtain⟨rfl,hbc⟩:=hcut;have HC:Hid (PtM wc bp po pc lb lc H P bs bg g N s t/\Below w.heap.size w wc):=⟨HA.out.1.below hbc,HA.out.2.trans (hbc.mono HA.out.2.size)⟩;have HcC:=zH<|HcA.out.below hbc zM
   clear hbc HA HcA b0 b1 b2 b3 b4 b5 b6 hne;go_wp2_with fail;go_at_call 216;refine sM (zuv wc 75) ?_;have hcap:=HC.out.1.pic.cap y hyH;have hcap':(s.W:Int)<=(lc y:Int):=by omega
   have hxl:(x:Int)<=(s.W:Int):=by omega
   go_wp2_with fail;go_at_call 219;have hq:=zrl (lb y) (x*7) (s.W-x) (lc y-x) (λi=>P (x+i) y) wc (λi hi=>by rw[←Nat.add_mul];exact HC.out.1.pic.cel y (x+i) hyH (by omega)) (by omega);rw[zlA] at hq;refine hq.mono ?_;rintro e wD ⟨rfl,q,rfl⟩;have HD:Hid (PtM (wc.drewN q) bp po pc lb lc H P bs bg g N s t/\Below w.heap.size w (wc.drewN q)/\zv (wc.drewN q) M 0 (P x y)):=⟨HC.out.1.below (Zc wc q),zcM HC.out.2 q,HcC.out.drewN q⟩;generalize wc.drewN q=wD at HD ⊢;obtain⟨hal1,hal2⟩:=zpg P (y:=y) hx;obtain⟨al,hal⟩:∃al,zaI P s.W x y=al:=⟨_,rfl⟩;have Hal:=zH hal;rw[hal] at hal1 hal2 ⊢;clear hq hal HC HcC hcap hcap' hxl;have e1:IntKind.i64.wrap ((x:Int)+(al:Int))=(x:Int)+(al:Int):=zm _ (by omega) (by omega);have hrow:(y+1)*s.W<=s.H*s.W:=Nat.mul_le_mul_right _ hy;rw[Nat.succ_mul] at hrow;by_cases hA1:x+al<s.W
   ·have hA2:(x:Int)+(al:Int)<(s.W:Int):=by omega
    have HK:Hid (ze3 P s.W s.H x y=(zaP 88 [zb7 al],al)):=by
     show _=_;unfold ze3;rw[Hal.out,if_pos hA1]
    have Hfit:Hid (y*s.W+x+al<=s.H*s.W):=by show _<=_;omega
    have Htk:Hid (zbN [zb7 al]):=ZD (by omega) (by intro t ht;cases ht);clear hrow;go_wp2_with fail;go_at_call 218;refine sM (zhZ al (by omega) (by omega) wD) ?_;go_wp2_with fail;go_at_call 216;refine(zsN wD 88 (zb7 al) Htk.out).mono ?_;rintro e wF ⟨rfl,hbF⟩;have HF:Hid (PtM wF bp po pc lb lc H P bs bg g N s t/\Below w.heap.size w wF):=⟨HD.out.1.below hbF,HD.out.2.1.trans (hbF.mono HD.out.2.1.size)⟩;clear hbF;go_wp2_with fail;go_at_call 221;refine(znG bp po pc lb lc H P bs bg g N s t x y al wF HF.out.1 ok hx hy (by omega) Hfit.out).mono ?_;rintro e wG ⟨rfl,hbG⟩;have HG:=zH<|HF.out.2.trans (hbG.mono HF.out.2.size)
    have HE2:=He.out;rw[HK.out] at HE2;obtain⟨sq,hsq⟩:∃sq,zaP 88 [zb7 al]=sq:=⟨_,rfl⟩;simp only[] at HE2;rw[hsq] at HE2 ⊢;obtain⟨sn,hsn⟩:∃sn,zdJ s P x y (al)=sn:=⟨_,rfl⟩;rw[hsn] at HE2 ⊢;have HE3:=zH HE2;have e2:((({data:=sq.toArray}:ByteArray).size:Nat):Int)=(sq.length:Int):=rfl;clear hbG HE2 hsq hsn He;by_cases hls:sq.length<sn
    ·have hls':(sq.length:Int)<(sn:Int):=by omega
     go_wp2_with fail;go_ret;exact⟨by rw[HE3.out,if_pos hls];rfl,HG.out⟩
    ·have hls':¬((sq.length:Int)<(sn:Int)):=by omega
     go_wp2_with fail;go_ret;exact⟨by rw[HE3.out,if_neg hls];rfl,HG.out⟩
   ·have hA2:¬((x:Int)+(al:Int)<(s.W:Int)):=by omega
    have eHs:=HD.out.1.hs;have HpH:Hid (H<=pc/\H=s.H):=⟨HD.out.1.hpc,eHs⟩;have hpc:=HD.out.1.hpc;have hpc':(H:Int)<=(pc:Int):=by omega
    obtain⟨y1,hy1⟩:∃y1,y+1=y1:=⟨_,rfl⟩;have e3:IntKind.i64.wrap ((y:Int)+1)=(y1:Int):=by rw[zm _ (by omega) (by omega)];omega
    have hy2:(y1:Int)<=(H:Int):=by omega
    have hy3:(0:Int)<=(y1:Int):=by omega
    have Hy1:=zH hy1;have c0:=HD.out.1.c0;have zM2:=HD.out.2.2.lt;have zB2:=World.block_lt_of_cell? _ _ c0;obtain⟨b0,b1,b2,b3,b4,b5,b6⟩:=HD.out.2.2;simp only[Nat.zero_add] at b0 b1 b2 b3 b4 b5 b6;cases hib:zdt P s.W H y1 (P x y) with
    |false=>
     have HIB:=zH hib;have HK:Hid (ze3 P s.W s.H x y=(zaP 75 [],al)):=by
      show _=_;unfold ze3;rw[Hal.out,if_neg hA1,←eHs,Hy1.out,if_neg (by rw[hib];decide)]
     have Hfit:Hid (y*s.W+x+al<=s.H*s.W):=by show _<=_;omega
     have hyl:y1<H:=by
      rcases Nat.lt_or_ge y1 H with q|q
      ·exact q
      ·have:zdt P s.W H y1 (P x y)=true:=by
        unfold zdt;rw[show H-y1=0 by omega];rfl
       rw[this] at hib;cases hib
     have hyp:y1<pc:=by omega
     have hyp':(y1:Int)<(pc:Int):=by omega
     have hyn:¬pc=y1:=by omega
     have hy0:¬y1=0:=by omega
     clear hib hrow hy1 eHs hyp hyl hpc hpc' hyp';go_wp2_with fail;go_region_held3 (λw'=>w'.cell? ⟨M,0,none⟩=some (.int .i32 (P x y).r)/\w'.cell? ⟨M,1,none⟩=some (.int .i64 (P x y).p)/\w'.cell? ⟨M,2,none⟩=some (.int .i64 (P x y).n.f)/\w'.cell? ⟨M,3,none⟩=some (.int .i64 (P x y).n.b)/\w'.cell? ⟨M,4,none⟩=some (.bool (P x y).n.bo)/\w'.cell? ⟨M,5,none⟩=some (.bool (P x y).n.un)/\w'.cell? ⟨M,6,none⟩=some (.bool (P x y).n.re)/\w'.cell? ⟨bp,0,none⟩=some (.slice (some ⟨po,0,none⟩) H pc)) (simp[*]) (first|(go_at_call 220;refine(zmL po y1 y1 (H-y1) (pc-y1) lb lc s.W H P (P x y) _ (HD.out.1.pic.below (by first|exact Below.refl _ _|exact(Below.refl _ _).drew)) (by omega) w1 (by omega) (by have:=HpH.out.2;omega) (.inr rfl)).mono ?_;rintro e wF ⟨rfl,hb7⟩;rw[HIB.out];have hb8:=zL hb7;have e4:=hb8.cells (b:=M) zM2;have e5:=hb8.cells (b:=bp) zB2;have HF:Hid (PtM wF bp po pc lb lc H P bs bg g N s t/\Below w.heap.size w wF):=⟨HD.out.1.below hb8,HD.out.2.1.trans (hb8.mono HD.out.2.1.size)⟩;clear hb7 hb8));all_goals
      clear c0 b0 b1 b2 b3 b4 b5 b6;go_wp2_with fail;go_at_call 221;refine(znG bp po pc lb lc H P bs bg g N s t x y al wF HF.out.1 ok hx hy (by omega) Hfit.out).mono ?_;rintro e wG ⟨rfl,hbG⟩;have HG:=zH<|HF.out.2.trans (hbG.mono HF.out.2.size)
      have HE2:=He.out;rw[HK.out] at HE2;obtain⟨sq,hsq⟩:∃sq,zaP 75 []=sq:=⟨_,rfl⟩;simp only[] at HE2;rw[hsq] at HE2 ⊢;obtain⟨sn,hsn⟩:∃sn,zdJ s P x y (al)=sn:=⟨_,rfl⟩;rw[hsn] at HE2 ⊢;have HE3:=zH HE2;have e2:((({data:=sq.toArray}:ByteArray).size:Nat):Int)=(sq.length:Int):=rfl;clear hbG HE2 hsq hsn He;by_cases hls:sq.length<sn
      ·have hls':(sq.length:Int)<(sn:Int):=by omega
       go_wp2_with fail;go_ret;exact⟨by rw[HE3.out,if_pos hls];rfl,HG.out⟩
      ·have hls':¬((sq.length:Int)<(sn:Int)):=by omega
       go_wp2_with fail;go_ret;exact⟨by rw[HE3.out,if_neg hls];rfl,HG.out⟩
    |true=>
     have HIB:=zH hib;obtain⟨pr,hpr⟩:∃pr,s.W*(H-y1)=pr:=⟨_,rfl⟩;have HK:Hid (ze3 P s.W s.H x y=(zaP 74 [],al+pr)):=by
      show _=_;unfold ze3;rw[Hal.out,if_neg hA1,←eHs,Hy1.out,if_pos hib,hpr]
     have Hfit:Hid (y*s.W+x+(al+pr)<=s.H*s.W):=by
      show _<=_;have e5:s.H*s.W=(y+1)*s.W+(H-y1)*s.W:=by rw[←Nat.add_mul,←eHs];congr 1;omega
      rw[e5,Nat.succ_mul,Nat.mul_comm (H-y1) s.W,hpr];omega
     have hpr2:pr<=40*20:=by rw[←hpr];exact Nat.mul_le_mul w2 (by omega)
     have e6:IntKind.i64.wrap ((s.W:Int)*((H-y1:Nat):Int))=(pr:Int):=by rw[←hpr,zm _ (by rw[←Int.natCast_mul,hpr];omega) (by rw[←Int.natCast_mul,hpr];omega),Int.natCast_mul]
     have e7:IntKind.i64.wrap ((al:Int)+(pr:Int))=((al+pr:Nat):Int):=by
      generalize pr=pr' at hpr2;clear e6 e1;rw[zm _ (by omega) (by omega)];omega
     have Hpr:Hid (s.W*(H-y1)=pr/\y1<=H):=⟨hpr,by omega⟩;clear hib hrow hy1 hpr;by_cases hyq:y1<pc
     ·have hyn:¬pc=y1:=by omega
      have hy0:¬y1=0:=by have:=Hy1.out;omega
      clear hyq eHs hpc hpc';go_wp2_with fail;go_region_held3 (λw'=>w'.cell? ⟨M,0,none⟩=some (.int .i32 (P x y).r)/\w'.cell? ⟨M,1,none⟩=some (.int .i64 (P x y).p)/\w'.cell? ⟨M,2,none⟩=some (.int .i64 (P x y).n.f)/\w'.cell? ⟨M,3,none⟩=some (.int .i64 (P x y).n.b)/\w'.cell? ⟨M,4,none⟩=some (.bool (P x y).n.bo)/\w'.cell? ⟨M,5,none⟩=some (.bool (P x y).n.un)/\w'.cell? ⟨M,6,none⟩=some (.bool (P x y).n.re)/\w'.cell? ⟨bp,0,none⟩=some (.slice (some ⟨po,0,none⟩) H pc)) (simp[*]) (first|(go_at_call 220;refine(zmL po y1 y1 (H-y1) (pc-y1) lb lc s.W H P (P x y) _ (HD.out.1.pic.below (by first|exact Below.refl _ _|exact(Below.refl _ _).drew)) (by omega) w1 (by omega) (by have:=HpH.out.2;omega) (.inr rfl)).mono ?_;rintro e wF ⟨rfl,hb7⟩;rw[HIB.out];have hb8:=zL hb7;have e4:=hb8.cells (b:=M) zM2;have e5:=hb8.cells (b:=bp) zB2;have HF:Hid (PtM wF bp po pc lb lc H P bs bg g N s t/\Below w.heap.size w wF):=⟨HD.out.1.below hb8,HD.out.2.1.trans (hb8.mono HD.out.2.1.size)⟩;clear hb7 hb8));all_goals
       have c0:=HF.out.1.c0;clear b0 b1 b2 b3 b4 b5 b6;go_wp2_with fail;go_at_call 216;refine sM (zuv wF 74) ?_;clear c0;go_wp2_with fail;go_at_call 221;refine(znG bp po pc lb lc H P bs bg g N s t x y (al+pr) wF HF.out.1 ok hx hy (by omega) Hfit.out).mono ?_;rintro e wG ⟨rfl,hbG⟩;have HG:=zH<|HF.out.2.trans (hbG.mono HF.out.2.size)
       have HE2:=He.out;rw[HK.out] at HE2;obtain⟨sq,hsq⟩:∃sq,zaP 74 []=sq:=⟨_,rfl⟩;simp only[] at HE2;rw[hsq] at HE2 ⊢;obtain⟨sn,hsn⟩:∃sn,zdJ s P x y (al+pr)=sn:=⟨_,rfl⟩;rw[hsn] at HE2 ⊢;have HE3:=zH HE2;have e2:((({data:=sq.toArray}:ByteArray).size:Nat):Int)=(sq.length:Int):=rfl;clear hbG HE2 hsq hsn He;by_cases hls:sq.length<sn
       ·have hls':(sq.length:Int)<(sn:Int):=by omega
        go_wp2_with fail;go_ret;exact⟨by rw[HE3.out,if_pos hls];rfl,HG.out⟩
       ·have hls':¬((sq.length:Int)<(sn:Int)):=by omega
        go_wp2_with fail;go_ret;exact⟨by rw[HE3.out,if_neg hls];rfl,HG.out⟩
     ·have hyn:pc=y1:=by omega
      have hyz:H-y1=0:=by omega
      have HYz:=zH hyz;subst hyn;clear hyq eHs hpc hpc' hyz;go_wp2_with fail;go_region_held3 (λw'=>w'.cell? ⟨M,0,none⟩=some (.int .i32 (P x y).r)/\w'.cell? ⟨M,1,none⟩=some (.int .i64 (P x y).p)/\w'.cell? ⟨M,2,none⟩=some (.int .i64 (P x y).n.f)/\w'.cell? ⟨M,3,none⟩=some (.int .i64 (P x y).n.b)/\w'.cell? ⟨M,4,none⟩=some (.bool (P x y).n.bo)/\w'.cell? ⟨M,5,none⟩=some (.bool (P x y).n.un)/\w'.cell? ⟨M,6,none⟩=some (.bool (P x y).n.re)/\w'.cell? ⟨bp,0,none⟩=some (.slice (some ⟨po,0,none⟩) H pc)) (simp[*]) (first|(go_at_call 220;refine(zmL po 0 pc (H-pc) 0 lb lc s.W H P (P x y) _ (HD.out.1.pic.below (by first|exact Below.refl _ _|exact(Below.refl _ _).drew)) (by omega) w1 (by omega) (by have:=HpH.out.2;omega) (.inl HYz.out)).mono ?_;rintro e wF ⟨rfl,hb7⟩;rw[HIB.out];have hb8:=zL hb7;have e4:=hb8.cells (b:=M) zM2;have e5:=hb8.cells (b:=bp) zB2;have HF:Hid (PtM wF bp po pc lb lc H P bs bg g N s t/\Below w.heap.size w wF):=⟨HD.out.1.below hb8,HD.out.2.1.trans (hb8.mono HD.out.2.1.size)⟩;clear hb7 hb8));all_goals
       have c0:=HF.out.1.c0;clear b0 b1 b2 b3 b4 b5 b6;go_wp2_with fail;go_at_call 216;refine sM (zuv wF 74) ?_;clear c0;go_wp2_with fail;go_at_call 221;refine(znG bp po pc lb lc H P bs bg g N s t x y (al+pr) wF HF.out.1 ok hx hy (by omega) Hfit.out).mono ?_;rintro e wG ⟨rfl,hbG⟩;have HG:=zH<|HF.out.2.trans (hbG.mono HF.out.2.size)
       have HE2:=He.out;rw[HK.out] at HE2;obtain⟨sq,hsq⟩:∃sq,zaP 74 []=sq:=⟨_,rfl⟩;simp only[] at HE2;rw[hsq] at HE2 ⊢;obtain⟨sn,hsn⟩:∃sn,zdJ s P x y (al+pr)=sn:=⟨_,rfl⟩;rw[hsn] at HE2 ⊢;have HE3:=zH HE2;have e2:((({data:=sq.toArray}:ByteArray).size:Nat):Int)=(sq.length:Int):=rfl;clear hbG HE2 hsq hsn He;by_cases hls:sq.length<sn
       ·have hls':(sq.length:Int)<(sn:Int):=by omega
        go_wp2_with fail;go_ret;exact⟨by rw[HE3.out,if_pos hls];rfl,HG.out⟩
       ·have hls':¬((sq.length:Int)<(sn:Int)):=by omega
        go_wp2_with fail;go_ret;exact⟨by rw[HE3.out,if_neg hls];rfl,HG.out⟩
end
end Go.Proofs.YtjlfibhbfdckpaaGreatDoor
