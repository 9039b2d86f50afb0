import Derived.Test.YtjlfibhbfdckpaaGreatDoorV07
namespace Go.Proofs.YtjlfibhbfdckpaaGreatDoor
set_option maxHeartbeats 64000000
set_option maxRecDepth 100000
section
open Go.RowKit
attribute [local go_sem ↓] Go.wp_at_zero Go.wp_at_succ
theorem ztY (bs bc g cap N:Nat) (s:Rs) (how:Int) (all:Bool) (w:World) (h:zi w bs bc g cap N s) (ok:s.Ok):
 Calls Tryz.prog 193 #[.pointer (some ⟨bs,0,none⟩),.int .i64 how,.bool all] w (zac bs bc g w (zbS s how all) (.tuple #[])):=by
 have HR:Hid (zi w bs bc g cap N s):=h;have Hok:Hid s.Ok:=ok;have w2:=ok.w2;have hh2:=ok.h2;have X0:=ok.x0;have Y0:=ok.y0;have nsg:=h.ne2;have lg:=h.cels.glt;clear h ok;go_in;go_wp2_with fail;go_at_call 192;refine(zjy bs bc g cap N s _ HR.out).mono ?_;rintro e wb ⟨rfl,hb2⟩;have HRb:Hid (zi wb bs bc g cap N s):=HR.out.below hb2;have Kb:zd (λi=>i=bs\/i=bc\/i=g) w wb:=zd.below _ hb2;clear hb2 HR;go_wp2_with fail;generalize hW3:wb.alloc _=w3;have B3:Below wb.heap.size wb w3:=by rw[←hW3];exact(Below.refl _ _).alloc (Nat.le_refl _) _
 have P3:Zf w3 wb.heap.size 0 (zS s):=by rw[←hW3];exact ZO _ _ _
 have R3:zi w3 bs bc g cap N {s with G:=zbw s how all 0}:=by
  have e:{s with G:=zbw s how all 0}=s:=by rw[zpA]
  rw[e];exact HRb.out.below B3
 have K3:zd (λi=>i=bs\/i=bc\/i=g) w w3:=Kb.thenBelow B3;have nbg:wb.heap.size≠g:=by have:=HRb.out.cels.glt;omega
 generalize wb.heap.size=Bp at *;clear hW3 B3 HRb Kb;go_loopw[7] (λi w'=>∃(y m:Nat),y<=s.H/\y*s.W=m/\i=.int .i64 y/\zi w' bs bc g cap N {s with G:=zbw s how all m}/\zd (λi=>i=bs\/i=bc\/i=g) w w'/\Zf w' Bp 0 (zS s)) (λi _=>s.H-(intOf i).toNat)
 case atStart=>exact⟨0,0,by omega,by simp,rfl,R3,K3,P3⟩
 case round=>
  clear R3 K3 P3;obtain⟨y,m0,hy,hm0,rfl,hR,hK,hP⟩:=hrel;have f2:wr.cell? ⟨bs,2,none⟩=some (.int .i64 s.H):=hR.f2;have HR0:Hid (zi wr bs bc g cap N {s with G:=zbw s how all m0}):=hR;have HP0:Hid (Zf wr Bp 0 (zS s)):=hP;have Hm0:Hid (y*s.W=m0):=hm0;clear hR hP hm0;by_cases hlt:y<s.H
  ·go_wp2_with fail;go_loopw[8] (λi w'=>∃(x m:Nat),x<=s.W/\y*s.W+x=m/\i=.int .i64 x/\zi w' bs bc g cap N {s with G:=zbw s how all m}/\zd (λi=>i=bs\/i=bc\/i=g) w w'/\Zf w' Bp 0 (zS s)) (λi _=>s.W-(intOf i).toNat)
   case atStart=>exact⟨0,m0,by omega,by have:=Hm0.out;omega,rfl,HR0.out,hK,HP0.out⟩
   case round=>
    clear HR0 HP0 f2 hK;obtain⟨x,m,hx,hm,rfl,hR,hK,hP⟩:=hrel;have f1:wr.cell? ⟨bs,1,none⟩=some (.int .i64 s.W):=hR.f1;have f3:wr.cell? ⟨bs,3,none⟩=some (.int .i64 s.x):=hR.f3;have f4:wr.cell? ⟨bs,4,none⟩=some (.int .i64 s.y):=hR.f4;have HR1:Hid (zi wr bs bc g cap N {s with G:=zbw s how all m}):=hR;have HP1:Hid (Zf wr Bp 0 (zS s)):=hP;have Hm:Hid (y*s.W+x=m):=hm;clear hR hP hm;by_cases hlx:x<s.W
    ·have pos:((y:Int)==s.y)=false/\(y:Int)<s.y\/((y:Int)==s.y)=true/\(y:Int)<=s.y/\s.y<=(y:Int)/\(x:Int)<s.x\/((y:Int)==s.y)=true/\(y:Int)<=s.y/\s.y<=(y:Int)/\(x:Int)<=s.x/\s.x<=(x:Int)\/((y:Int)==s.y)=true/\(y:Int)<=s.y/\s.y<=(y:Int)/\s.x<(x:Int)\/((y:Int)==s.y)=false/\s.y<(y:Int):=by simp;omega
     have hq:how=0\/how=1\/how=2\/(how==0)=false/\(how==1)=false/\(how==2)=false:=by simp;omega
     cases E:zct how all s.x s.y x y
     ·have HE:Hid (ZX s.W s.H (zbw s how all m) (zbw s how all (m+1))):=by have:=ztW Hok.out.wf how all hlx E;rwa [Hm.out] at this
      rcases hq with rfl|rfl|rfl|⟨b0,b1,b2⟩<;>cases all<;>rcases pos with⟨c1,a1⟩|⟨c1,a3,a4,a1⟩|⟨c1,a3,a4,a5,a6⟩|⟨c1,a3,a4,a1⟩|⟨c1,a1⟩;all_goals first|exact absurd (E.symm.trans (show _=true by first|(simp[zct];done)|(simp[zct];omega))) (by decide)|skip
      all_goals
       clear E;go_wp2_with fail;go_roundw
       case rel=>exact⟨x+1,m+1,by omega,by have:=Hm.out;omega,by go_num,⟨HR1.out.blk,HR1.out.cels.congr HE.out,HR1.out.ne1,HR1.out.ne2⟩,hK,HP1.out⟩
       case measure=>simp[intOf];omega
     ·have HE:Hid (ZX s.W s.H (wrt (zbw s how all m) (pt x y) (λ_ _=>blk (zS s))) (zbw s how all (m+1))):=by have:=zrP Hok.out.wf how all hlx E;rwa [Hm.out] at this
      generalize hG1:zbw s how all (m+1)=G1 at HE;have HG1:=zH hG1;clear hG1;rcases hq with rfl|rfl|rfl|⟨b0,b1,b2⟩<;>cases all<;>rcases pos with⟨c1,a1⟩|⟨c1,a3,a4,a1⟩|⟨c1,a3,a4,a5,a6⟩|⟨c1,a3,a4,a1⟩|⟨c1,a1⟩;all_goals first
       |exact absurd (E.symm.trans (show _=false by first|(simp[zct];done)|(simp[zct];omega)|(simp at b0 b1 b2;simp[zct,b0,b1,b2]))) (by decide)
       |as_aux_lemma=>
         clear E;go_wp2_with fail;have f0:wr.cell? ⟨bs,0,none⟩=some (.pointer (some ⟨bc,0,none⟩)):=HR1.out.f0;obtain⟨p0,p1,p2,p3,p4⟩:=HP1.out;have l1:=HR1.out.lt;have lp:=HP1.out.lt;go_region_held3 (λw'=>w'.cell? ⟨bs,0,none⟩=some (.pointer (some ⟨bc,0,none⟩))/\w'.cell? ⟨Bp,0,none⟩=some (.int .i64 (zS s).f)/\w'.cell? ⟨Bp,1,none⟩=some (.int .i64 (zS s).b)/\w'.cell? ⟨Bp,2,none⟩=some (.bool (zS s).bo)/\w'.cell? ⟨Bp,3,none⟩=some (.bool (zS s).un)/\w'.cell? ⟨Bp,4,none⟩=some (.bool (zS s).re)) (simp[*])
          (first|(go_at_call 95;refine(zaj (zS s) _).mono ?_;rintro e w5 ⟨rfl,hb5⟩;have e1:=hb5.cells l1;have e2:=hb5.cells lp;have HC5:Hid (Zp w5 bc g cap s.W s.H N _):=HR1.out.cels.below (zL hb5))|(go_at_call 137;refine(zm9 bc g cap s.W s.H N _ x y (blk (zS s)) _ HC5.out (ztX Hok.out.wf _ _ _) hlx hlt).mono ?_;rintro e w6 ⟨rfl,C6,K6⟩;have s5:=hb5.size;have e3:=zaT K6 (Nat.lt_of_lt_of_le l1 s5) nsg;have e4:=zaT K6 (Nat.lt_of_lt_of_le lp s5) nbg))
         have hb5:Below wr.heap.size wr w5:=zL hb5;have K7:zd (λi=>i=bs\/i=bc\/i=g) w w6:=(hK.thenBelow hb5).trans K6 (λi _ hi=>.inr (.inr hi));have P7:Zf w6 Bp 0 (zS s):=(HP1.out.same (hb5.block _ lp)).same (K6.block _ (Nat.lt_of_lt_of_le lp s5) nbg);have R7:=HR1.out.cells {s with G:=G1} ((K6.block _ (Nat.lt_of_lt_of_le l1 s5) nsg).trans (hb5.block _ l1)) (C6.congr HE.out) rfl HR1.out.ne2;rename_i hS;clear hS e1 e2 e3 e4 C6 K6 HC5 hb5 p0 p1 p2 p3 p4 f0;go_wp2_with fail;go_roundw
         case rel=>exact⟨x+1,m+1,by omega,by have:=Hm.out;omega,by go_num,by rw[HG1.out];exact R7,K7,P7⟩
         case measure=>simp[intOf];omega
    ·obtain hxe:x=s.W:=by omega
     go_wp2_with fail;go_roundw
     case rel=>exact⟨y+1,m,by omega,by rw[Nat.succ_mul,←Hm.out,hxe],by go_num,HR1.out,hK,HP1.out⟩
     case measure=>simp[intOf];omega
  ·have hye:Hid (y=s.H):=by show y=s.H;omega
   go_wp2_with fail;go_end0;have R9:zi wr bs bc g cap N (zbS s how all):=by
    have:=zrQ Hok.out.wf how all;have hmm:s.H*s.W=m0:=by rw[←Hm0.out,hye.out]
    rw[hmm] at this;exact⟨HR0.out.blk,HR0.out.cels.congr this,HR0.out.ne1,HR0.out.ne2⟩
   exact Z5 R9 hK (.inl rfl)
end
end Go.Proofs.YtjlfibhbfdckpaaGreatDoor
