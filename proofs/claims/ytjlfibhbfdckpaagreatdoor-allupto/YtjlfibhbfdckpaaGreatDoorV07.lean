import Derived.Test.YtjlfibhbfdckpaaGreatDoorV05
import Derived.Test.YtjlfibhbfdckpaaGreatDoorV06
namespace Go.Proofs.YtjlfibhbfdckpaaGreatDoor
set_option maxHeartbeats 64000000
set_option maxRecDepth 100000
section
open Go.RowKit
open Wd (wd)
attribute [local go_sem ↓] Go.wp_at_zero Go.wp_at_succ
theorem zbv (x y:Int) (w:World):
 Calls Tryz.prog 73 #[.int .i64 x,.int .i64 y] w λe w'=>e=.returned (.bool (ZC x y))/\w'=w:=by
 cases h1:Wd.inB x 1 40<;>cases h2:Wd.inB y 1 20;all_goals
  go_in;go_wp2_with (go_at_call 86;refine(Wd.refBetween _ _ _ _).mono ?_;rintro e w' ⟨rfl,rfl⟩);go_ret;exact⟨by simp[ZC,h1,h2],rfl⟩
theorem zjy (bs bc g cap N:Nat) (s:Rs) (w:World) (h:zi w bs bc g cap N s):
 Calls Tryz.prog 192 #[.pointer (some ⟨bs,0,none⟩)] w λe w'=>e=.returned (zS s).agg/\Below w.heap.size w w':=by
 have f7:=h.f7;have l:=h.lt;clear h;go_in;go_wp2;exact bodyPost_ret (v:=(zS s).agg) (by simp[results,Tryz.results192,go_sem,zS]) rfl ⟨rfl,(Below.refl _ _).alloc (Nat.le_refl _) _⟩
theorem zdU (bs bc g cap N:Nat) (s:Rs) (x y:Int) (w:World) (h:zi w bs bc g cap N s):
 Calls Tryz.prog 91 #[.pointer (some ⟨bs,0,none⟩),.int .i64 x,.int .i64 y] w λe w'=>e=.returned (.tuple #[])/\zi w' bs bc g cap N (ZQ s x y)/\zd (λi=>i=bs) w w':=by
 have f1:=h.f1;have f2:=h.f2;have f3:=h.f3;have f4:=h.f4;have f5:=h.f5;have fr:=h.free;have hw:=h.cels.w1;have hw2:=h.cels.w2;have hh:=h.cels.h1;have hh2:=h.cels.h2;have HR:=zH h;clear h;rcases(by omega:x<0\/(0<=x/\x<=(s.W:Int)-1)\/(0<=x/\(s.W:Int)-1<x)) with a1|⟨a1,a2⟩|⟨a1,a2⟩;all_goals rcases(by omega:y<0\/(0<=y/\y<=(s.H:Int)-1)\/(0<=y/\(s.H:Int)-1<y)) with b1|⟨b1,b2⟩|⟨b1,b2⟩
 all_goals
  have Hx:Hid (zap x s.W=if x<0 then 0 else if (s.W:Int)-1<x then(s.W:Int)-1 else x):=rfl;have Hy:Hid (zap y s.H=if y<0 then 0 else if (s.H:Int)-1<y then(s.H:Int)-1 else y):=rfl;go_in;go_wp2;go_end0;have ex:=Hx.out;have ey:=Hy.out;first|rw[if_pos a1] at ex|rw[if_neg (by omega),if_neg (by omega)] at ex|rw[if_neg (by omega),if_pos a2] at ex
  first|rw[if_pos b1] at ey|rw[if_neg (by omega),if_neg (by omega)] at ey|rw[if_neg (by omega),if_pos b2] at ey
  refine⟨rfl,?_,zpw _ _ _ _ _⟩;unfold ZQ;rw[ex,ey];exact HR.out.setXYP _ _
theorem zhk (bc g cap W H N:Nat) (G:Nat->Nat->zk) (top bot:Int) (n:Int) (p:Pn) (w:World) (h:Zp w bc g cap W H N G) (t0:0<=top) (b0:0<=bot) (hb:bot<H):
 Calls Tryz.prog 89 #[.pointer (some ⟨bc,0,none⟩),.int .i64 top,.int .i64 bot,.int .i64 n,p.agg] w λe w'=>∃g' cap',e=.returned (.tuple #[])/\Zp w' bc g' cap' W H N (zo top bot n p G)/\zd (λi=>i=bc) w w'/\w.heap.size<=g':=by
 obtain⟨top,rfl⟩:=Int.eq_ofNat_of_zero_le t0;obtain⟨bot,rfl⟩:=Int.eq_ofNat_of_zero_le b0;exact ziC bc g cap W H N G top bot n p w h (by omega)
theorem znN (bc g cap W H N:Nat) (G:Nat->Nat->zk) (f t:Int) (y:Int) (n:Pn) (w:World) (h:Zp w bc g cap W H N G) (hwf:Wf W H G) (y0:0<=y) (hy:y<H):
 Calls Tryz.prog 87 #[.pointer (some ⟨bc,0,none⟩),.int .i64 f,.int .i64 t,.int .i64 y,n.agg] w λe w'=>e=.returned (.tuple #[])/\Zp w' bc g cap W H N (wrt G (rg f t y.toNat) (λ_ _=>blk n))/\zd (λi=>i=g) w w':=by
 obtain⟨y,rfl⟩:=Int.eq_ofNat_of_zero_le y0;exact zkm bc g cap W H N G f t y n w h hwf (by omega)
theorem zaT {F:Nat->Prop} {w w':World} (h:zd F w w') {b:Nat} (hb:b<w.heap.size) (hF:¬F b):∀o,w'.cell? ⟨b,o,none⟩=w.cell? ⟨b,o,none⟩:=λo=>Zj (h.block b hb hF) o
theorem zgx (bs bc g cap N:Nat) (s:Rs) (w:World) (h:zi w bs bc g cap N s) (ok:Rs.Ok {s with pend:=false}):
 Calls Tryz.prog 190 #[.pointer (some ⟨bs,0,none⟩)] w (zac bs bc g w (zt s) (.tuple #[])):=by
 have f0:=h.f0;have f3:=h.f3;have f4:=h.f4;have f11:=h.f11;have f12:=h.f12;have HR:=zH h;have Hok:Hid (0<=s.top/\0<=s.bot/\s.bot<s.H):=⟨ok.t0,Int.le_trans ok.t0 ok.tb,ok.b1⟩;have y1:s.y<s.H:=ok.y1;have y0:0<=s.y:=ok.y0;have h2:s.H<=20:=ok.h2;clear h ok;by_cases hy:s.y=s.bot
 ·have hq:(s.y==s.bot)=true:=by simp[hy]
  have HL:Hid (zt s={s with G:=zo s.top s.bot 1 (zS s) s.G,pend:=false}):=by unfold zt;exact if_pos hy
  clear hy;go_in;go_wp2_with fail;go_quiet (fail);go_wp2_with fail;go_at_call 192;refine(zjy bs bc g cap N s _ (HR.out.drewN _)).mono ?_;rintro e w2 ⟨rfl,hb2⟩;have B2:Below w.heap.size w w2:=⟨hb2.os,hb2.tape,hb2.output,hb2.size,hb2.block⟩;have HR2:=zH<|HR.out.below B2
  have K2:zd (λi=>i=bs\/i=bc\/i=g) w w2:=zd.below _ B2;have sz2:=B2.size;clear hb2 B2 f0 f3 f4 f11 f12 HR;have g0:=HR2.out.f0;have g11:=HR2.out.f11;have g12:=HR2.out.f12;have l2:=HR2.out.lt;go_wp2_with fail;generalize hW3:w2.alloc _=w3;have B3:Below w2.heap.size w2 w3:=by rw[←hW3];exact(Below.refl _ _).alloc (Nat.le_refl _) _
  have P3:Zf w3 w2.heap.size 0 (zS s):=by rw[←hW3];exact ZO _ _ _
  have HR3:=zH<|HR2.out.below B3
  have K3:=K2.thenBelow B3;have sz3:=B3.size;have np:w2.heap.size≠bc:=by have:=HR2.out.cels.lt;omega
  generalize w2.heap.size=Bp at *;clear hW3 B3 HR2 K2 g0 g11 g12;have g0:=HR3.out.f0;have g11:=HR3.out.f11;have g12:=HR3.out.f12;have l3:=HR3.out.lt;have lp:=P3.lt;have nsc:=HR3.out.ne1;obtain⟨p0,p1,p2,p3,p4⟩:=P3;go_region_held3 (λw'=>w'.cell? ⟨bs,0,none⟩=some (.pointer (some ⟨bc,0,none⟩))/\w'.cell? ⟨bs,11,none⟩=some (.int .i64 s.top)/\w'.cell? ⟨bs,12,none⟩=some (.int .i64 s.bot)/\w'.cell? ⟨Bp,0,none⟩=some (.int .i64 (zS s).f)/\w'.cell? ⟨Bp,1,none⟩=some (.int .i64 (zS s).b)/\w'.cell? ⟨Bp,2,none⟩=some (.bool (zS s).bo)/\w'.cell? ⟨Bp,3,none⟩=some (.bool (zS s).un)/\w'.cell? ⟨Bp,4,none⟩=some (.bool (zS s).re)) (simp[*]) (first|(go_at_call 89;refine(zhk bc g cap s.W s.H N s.G s.top s.bot 1 (zS s) _ HR3.out.cels.drew Hok.out.1 Hok.out.2.1 Hok.out.2.2).mono ?_;rintro e w4 ⟨g4,cap4,rfl,C4,K4,hg4⟩;have e1:=zaT K4 l3 nsc;have e2:=zaT K4 lp np));have K4:zd (λi=>i=bc) w3 w4:=⟨K4.os,K4.tape,K4.output,K4.size,K4.block⟩;have R4:=HR3.out.cells {s with G:=zo s.top s.bot 1 (zS s) s.G} (K4.block _ l3 nsc) C4 rfl (by have:w3.heap.size<=g4:=hg4;omega);have K5:=K3.trans K4 (λi _ hi=>.inr (.inl hi));have hg5:w.heap.size<=g4:=by have:w3.heap.size<=g4:=hg4;omega
  have HR4:=zH R4;have q5:=R4.f5;have fr:=R4.free;rename_i hS;clear hS e1 e2 C4 K4 R4 g0 g11 g12 p0 p1 p2 p3 p4;go_wp2_with fail;have R9:zi (w4.setCell ⟨bs,5,none⟩ (.bool false)) bs bc g4 cap4 N (zt s):=by rw[HL.out];exact HR4.out.setPend false
  exact bodyPost_ret (v:=.tuple #[]) (by simp[results,Tryz.results190,go_sem]) rfl (Z5 R9 (K5.setCell ⟨bs,5,none⟩ _ (λ_=>.inl rfl)) (.inr hg5))
 ·have hq:(s.y==s.bot)=false:=by simp[hy]
  have HL:Hid (zt s=ZQ s s.x (s.y+1)):=by unfold zt;exact if_neg hy
  clear hy;go_in;go_wp2_with fail;go_quiet (fail);go_wp2_with fail;have HR2:=zH<|HR.out.drewN nq
  have K2:zd (λi=>i=bs\/i=bc\/i=g) w (w.drewN nq):=(zd.refl _ _).drewN nq;generalize w.drewN nq=w2 at *;clear f3 f4 f0 f11 f12;have f3:=HR2.out.f3;have f4:=HR2.out.f4;have HL2:=zH K2;clear K2 HR;have hwr:IntKind.i64.wrap (s.y+1)=s.y+1:=zm _ (by omega) (by omega);go_region_with (first|(go_at_call 91;refine(zdU bs bc g cap N s s.x (s.y+1) _ HR2.out.drew).mono ?_;rintro e w5 ⟨rfl,R5,K5⟩));all_goals
   have K6:=HL2.out.trans (⟨K5.os,K5.tape,K5.output,K5.size,K5.block⟩:zd (λi=>i=bs) w2 w5) (λi _ hi=>.inl hi);clear K5;go_wp2_with fail;go_end0;have R9:zi w5 bs bc g cap N (zt s):=by rw[HL.out];exact R5
   exact Z5 R9 K6 (.inl rfl)
end
end Go.Proofs.YtjlfibhbfdckpaaGreatDoor
