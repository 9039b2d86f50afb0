import Derived.Test.YtjlfibhbfdckpaaGreatDoorV38
import Derived.Deep.RegionHeldLaw
import Derived.DeepKeys4
namespace Go.Proofs.YtjlfibhbfdckpaaGreatDoor
set_option maxHeartbeats 64000000
set_option maxRecDepth 100000
section
open Go.RowKit
open Wd (wd)
attribute [local go_sem ↓] Go.wp_at_zero Go.wp_at_succ
abbrev zgP (g:Gl):Array Value:=#[.int .i64 g.x,.int .i64 g.y,.int .i64 g.pen.f,.int .i64 g.pen.b,.bool g.pen.bo,.bool g.pen.un,.bool g.pen.re,.bool g.letter]
abbrev zcJ (v:Wy):Array Value:=#[.string ⟨v.b.toArray⟩,.int .i64 v.k,.int .i64 v.e.x,.int .i64 v.e.y,.bool v.e.pend,.int .i64 v.e.pen.f,.int .i64 v.e.pen.b,.bool v.e.pen.bo,.bool v.e.pen.un,.bool v.e.pen.re]
structure zlv (wA wc:World) (v:Value) (L:List Wy):Prop where
 row:wc.ownsRow wA.heap.size 237 10 v L.length (ZG L)
 bel:Below wA.heap.size wA wc
theorem zhd {wA wc W w7:World} {v:Value} {L:List Wy} {u:Wy} {g7 cap7:Nat} (h:zlv wA wc v L) (hW:Below wc.heap.size wc W) (hg:W.grownBy w7 v.ownBlock) (hr:w7.ownsRow wA.heap.size 237 10 (.slice (some ⟨g7,0,none⟩) (L.length+1) cap7) (L.length+1) (ZG L++u.vals)):zlv wA w7 (.slice (some ⟨g7,0,none⟩) (L.length+1) cap7) (L ++ [u]):=by
 refine⟨?_,?_⟩
 ·have e:ZG L++u.vals=ZG (L ++ [u]):=by rw[zdM,zc9];simp[ZG]
  rw[e] at hr;rw[List.length_append];exact hr
 ·have hb:=h.bel.trans (hW.mono h.bel.size);exact hb.grown hg hb.size (λi hi=>(h.row.lt i hi).1)
theorem zje {w:World} {B B':Nat} {e:TypeId} {size:Nat} {v:Value} {n:Nat} {xs:List Value} (h:w.ownsRow B e size v n xs) (hB:B'<=B):w.ownsRow B' e size v n xs:=by
 refine⟨h.1,?_⟩;rcases h.2 with h0|⟨g,cap,cur,h1,h2,h3⟩
 ·exact .inl h0
 ·exact .inr ⟨g,cap,cur,h1,Nat.le_trans hB h2,h3⟩
def zeP (f:Sp) (g:Gl):List Wy:=[⟨[13],0,f.move 0 f.y⟩,⟨[8],0,f.move (zhR (f.x-1) 0) f.y⟩,⟨[],0,f.ink g.pen⟩]
theorem zra {wA w:World} (h:Below wA.heap.size wA w) (u v x:Wy):zlv wA (w.alloc (.cells #[.string ⟨u.b.toArray⟩,.int .i64 u.k,.int .i64 u.e.x,.int .i64 u.e.y,.bool u.e.pend,.int .i64 u.e.pen.f,.int .i64 u.e.pen.b,.bool u.e.pen.bo,.bool u.e.pen.un,.bool u.e.pen.re,.string ⟨v.b.toArray⟩,.int .i64 v.k,.int .i64 v.e.x,.int .i64 v.e.y,.bool v.e.pend,.int .i64 v.e.pen.f,.int .i64 v.e.pen.b,.bool v.e.pen.bo,.bool v.e.pen.un,.bool v.e.pen.re,.string ⟨x.b.toArray⟩,.int .i64 x.k,.int .i64 x.e.x,.int .i64 x.e.y,.bool x.e.pend,.int .i64 x.e.pen.f,.int .i64 x.e.pen.b,.bool x.e.pen.bo,.bool x.e.pen.un,.bool x.e.pen.re] 237)) (.slice (some ⟨w.heap.size,0,none⟩) 3 3) [u,v,x] :=
 ⟨⟨by rw[zcj],.inr ⟨w.heap.size,3,_,rfl,h.size,zf _ _,Nat.le_refl _,by decide,by simp,by simp[ZG]⟩⟩,h.alloc h.size _⟩
theorem zuP (bs bg g N:Nat) (s:Rs) (t:Pt) (f:Sp) (gl:Gl) (w:World) (h:zh w bs bg g N s t) (ok:s.Ok) (hf:f.In s) (hg:gl.In s):
 Calls Tryz.prog 225 #[.pointer (some ⟨bs,0,none⟩),f.agg,gl.agg] w (zj5 w (zbr s f gl)):=by
 obtain⟨ti,i1,i2,i3,i4⟩:=zlg;have x0:=hf.x0;have y0:=hf.y0;have x1:f.x<40:=by have:=hf.x1;have:=ok.w2;omega
 have y1:f.y<20:=by have:=hf.y1;have:=ok.h2;omega
 obtain⟨M,hM⟩:∃M,w.heap.size=M:=⟨_,rfl⟩;have HM:=zH hM;have HP:=zH h;have Hok:Hid (s.Ok/\f.In s/\gl.In s):=⟨ok,hf,hg⟩;have gx0:=hg.x0;have gx1:gl.x<40:=by have:=hg.x1;have:=ok.w2;omega
 have gy0:=hg.y0;have gy1:gl.y<20:=by have:=hg.y1;have:=ok.h2;omega
 clear h ok hf hg;go_in;go_wp2_with fail;have hA:∃wA,(w.alloc (.cells (zeO f) 235)).alloc (.cells (zgP gl) 211)=wA/\wA.heap.size=M+2/\wA.heap[M]?=some (.cells (zeO f) 235)/\wA.heap[M+1]?=some (.cells (zgP gl) 211)/\Below w.heap.size w wA:=by
  subst hM;refine⟨_,rfl,by simp,?_,ZM _ _ (by simp),((Below.refl _ _).alloc (Nat.le_refl _) _).alloc (by simp) _⟩;rw[zN _ _ (by simp),ZM _ _ rfl]
 obtain⟨wA,hwA,zA,bM,bG,belA⟩:=hA;rw[hwA];have HbA:=zH belA;have HbM:=zH bM;have HbG:=zH bG;have m0:wA.cell? ⟨M,0,none⟩=some (.int .i64 f.x):=za bM 0;have m1:wA.cell? ⟨M,1,none⟩=some (.int .i64 f.y):=za bM 1;have m2:wA.cell? ⟨M,2,none⟩=some (.bool f.pend):=za bM 2;have m3:wA.cell? ⟨M,3,none⟩=some (.int .i64 f.pen.f):=za bM 3;have m4:wA.cell? ⟨M,4,none⟩=some (.int .i64 f.pen.b):=za bM 4;have m5:wA.cell? ⟨M,5,none⟩=some (.bool f.pen.bo):=za bM 5;have m6:wA.cell? ⟨M,6,none⟩=some (.bool f.pen.un):=za bM 6;have m7:wA.cell? ⟨M,7,none⟩=some (.bool f.pen.re):=za bM 7;have g0:wA.cell? ⟨M+1,0,none⟩=some (.int .i64 gl.x):=za bG 0;have g1:wA.cell? ⟨M+1,1,none⟩=some (.int .i64 gl.y):=za bG 1;have g2:wA.cell? ⟨M+1,2,none⟩=some (.int .i64 gl.pen.f):=za bG 2;have g3:wA.cell? ⟨M+1,3,none⟩=some (.int .i64 gl.pen.b):=za bG 3;have g4:wA.cell? ⟨M+1,4,none⟩=some (.bool gl.pen.bo):=za bG 4;have g5:wA.cell? ⟨M+1,5,none⟩=some (.bool gl.pen.un):=za bG 5;have g6:wA.cell? ⟨M+1,6,none⟩=some (.bool gl.pen.re):=za bG 6;clear bM bG belA hwA;have hw1:IntKind.i64.wrap (f.x-1)=f.x-1:=zm _ (by omega) (by omega);have HB:Hid (Below wA.heap.size wA wA.drew):=(Below.refl _ _).drew;go_region_held3 (λw'=>w'.cell? ⟨M,0,none⟩=some (.int .i64 f.x)/\w'.cell? ⟨M,1,none⟩=some (.int .i64 f.y)/\w'.cell? ⟨M,2,none⟩=some (.bool f.pend)/\w'.cell? ⟨M,3,none⟩=some (.int .i64 f.pen.f)/\w'.cell? ⟨M,4,none⟩=some (.int .i64 f.pen.b)/\w'.cell? ⟨M,5,none⟩=some (.bool f.pen.bo)/\w'.cell? ⟨M,6,none⟩=some (.bool f.pen.un)/\w'.cell? ⟨M,7,none⟩=some (.bool f.pen.re)/\w'.cell? ⟨M+1,2,none⟩=some (.int .i64 gl.pen.f)/\w'.cell? ⟨M+1,3,none⟩=some (.int .i64 gl.pen.b)/\w'.cell? ⟨M+1,4,none⟩=some (.bool gl.pen.bo)/\w'.cell? ⟨M+1,5,none⟩=some (.bool gl.pen.un)/\w'.cell? ⟨M+1,6,none⟩=some (.bool gl.pen.re)) (simp[*,zdL]) (first
  |(go_at_call 239;refine(zhX f _ _ _).mono ?_;rintro e w5 ⟨rfl,hb5⟩;have hb6:=HB.out.trans (hb5.mono HB.out.size);have e1:=hb6.cells (b:=M) (by omega);have e2:=hb6.cells (b:=M+1) (by omega);have z5:M+1<w5.heap.size:=(by have:=hb6.size;omega);have z6:M<w5.heap.size:=(by omega);clear HB hb5;have HB:Hid _:=hb6;clear hb6)
  |(go_at_call 240;refine(zuu f gl.pen _).mono ?_;rintro e w5 ⟨rfl,hb5⟩;have hb6:=HB.out.trans (hb5.mono HB.out.size);have e1:=hb6.cells (b:=M) (by omega);have e2:=hb6.cells (b:=M+1) (by omega);have z5:M+1<w5.heap.size:=(by have:=hb6.size;omega);have z6:M<w5.heap.size:=(by omega);clear HB hb5;have HB:Hid _:=hb6;clear hb6)
  |(go_at_call 139;refine sM (zcf _ _ _) ?_))
 have HS:Hid (zlv wA (w5.alloc (.cells #[.string ⟨#[13]⟩,.int .i64 0,.int .i64 (f.move 0 f.y).x,.int .i64 (f.move 0 f.y).y,.bool (f.move 0 f.y).pend,.int .i64 (f.move 0 f.y).pen.f,.int .i64 (f.move 0 f.y).pen.b,.bool (f.move 0 f.y).pen.bo,.bool (f.move 0 f.y).pen.un,.bool (f.move 0 f.y).pen.re,.string ⟨#[8]⟩,.int .i64 0,.int .i64 (f.move (zK (f.x-1) 0) f.y).x,.int .i64 (f.move (zK (f.x-1) 0) f.y).y,.bool (f.move (zK (f.x-1) 0) f.y).pend,.int .i64 (f.move (zK (f.x-1) 0) f.y).pen.f,.int .i64 (f.move (zK (f.x-1) 0) f.y).pen.b,.bool (f.move (zK (f.x-1) 0) f.y).pen.bo,.bool (f.move (zK (f.x-1) 0) f.y).pen.un,.bool (f.move (zK (f.x-1) 0) f.y).pen.re,.string ⟨#[]⟩,.int .i64 0,.int .i64 (f.ink gl.pen).x,.int .i64 (f.ink gl.pen).y,.bool (f.ink gl.pen).pend,.int .i64 (f.ink gl.pen).pen.f,.int .i64 (f.ink gl.pen).pen.b,.bool (f.ink gl.pen).pen.bo,.bool (f.ink gl.pen).pen.un,.bool (f.ink gl.pen).pen.re] 237)) (.slice (some ⟨w5.heap.size,0,none⟩) 3 3) (zeP f gl)):=zra HB.out ⟨[13],0,f.move 0 f.y⟩ ⟨[8],0,f.move (zK (f.x-1) 0) f.y⟩ ⟨[],0,f.ink gl.pen⟩;clear hw1 e1 e2 z5 z6 HB;generalize w5.alloc _=wB at HS ⊢;generalize Value.slice (some ⟨w5.heap.size,0,none⟩) 3 3=v0 at HS ⊢;have HP1:=zH<|(HP.out.below HbA.out).below HS.out.bel
 have c1:=HS.out.bel.cells (b:=M) (by omega);have c2:=HS.out.bel.cells (b:=M+1) (by omega);go_upto_if 34 with(go_at_call 121;refine sM (zlt bs bg g N s t _ _ _ HP1.out) ?_);go_cut[7] (λv wc=>zlv wA wc v (zeP f gl++(if inG s.W s.H f.x (f.y+1)=true then[(⟨[10],0,f.move f.x (f.y+1)⟩:Wy)] else[])))
 case first=>
  have hlen:(zeP f gl).length<=10:=by show 3<=10;omega
  have hzB:=HS.out.bel.size;cases hin:inG s.W s.H f.x (f.y+1) with
  |true=>
   have HR:Hid ((if inG s.W s.H f.x (f.y+1)=true then[(⟨[10],0,f.move f.x (f.y+1)⟩:Wy)] else[])=[(⟨[10],0,f.move f.x (f.y+1)⟩:Wy)]):=by show _=_;rw[if_pos hin]
   go_wp2_with fail;go_at_call 239;refine(zhX f _ _ _).mono ?_;rintro e w6 ⟨rfl,hb6⟩;have HBc:=zH hb6;have hz6:=hb6.size;clear hb6;go_wp2_with (at_builtin;refine wpList_append_lies _ (by rfl) (.tmp 35) (.tmp 44) 239 (by rfl) wA.heap.size 237 ti _ 10 72 Tryz.underlying239 i1 i2 i3 i4 rfl (by decide) v0 (zeP f gl).length (ZG (zeP f gl)) (by rfl) (ZH HS.out.row (λi hi=>(zN _ _ (Nat.lt_of_lt_of_le (HS.out.row.lt i hi).2 HBc.out.size)).trans (HBc.out.block i (HS.out.row.lt i hi).2))) ⟨w6.heap.size,0,none⟩ 1 1 (Wy.vals (⟨[10],0,f.move f.x (f.y+1)⟩:Wy)) (by rfl) rfl (World.news_of_block (zf w6 _)) (zdN (⟨[10],0,f.move f.x (f.y+1)⟩:Wy)) (by decide) (by unfold maxLen;omega) (by omega) (by simp;omega) _ rfl ?_;intro g7 cap7 w7 hr7 hg7 ho7 hl7);have hsw:=zhd HS.out (HBc.out.alloc HBc.out.size _) hg7 hr7;have HSW:Hid _:=hsw;clear hsw hg7 hr7;go_meet
   case rel=>rw[HR.out];exact HSW.out
  |false=>
   have HR:Hid ((if inG s.W s.H f.x (f.y+1)=true then[(⟨[10],0,f.move f.x (f.y+1)⟩:Wy)] else[])=[]):=by show _=_;rw[if_neg (by rw[hin];decide)]
   go_wp2_with fail;go_meet
   case rel=>rw[HR.out,List.append_nil];exact HS.out
 case rest=>
  clear c1 c2;obtain⟨L2,hL2⟩:∃L,zeP f gl++(if inG s.W s.H f.x (f.y+1)=true then[(⟨[10],0,f.move f.x (f.y+1)⟩:Wy)] else[])=L:=⟨_,rfl⟩;have HL2:=zH hL2;rw[hL2] at hcut;have HS2:=zH hcut;clear hcut hL2;have hlen:L2.length<=6:=by rw[←HL2.out];simp only[List.length_append];have:(zeP f gl).length=3:=rfl;split<;>simp<;>omega
  have hzB:=HS2.out.bel.size;have c1:=HS2.out.bel.cells (b:=M) (by omega);have c2:=HS2.out.bel.cells (b:=M+1) (by omega);go_upto_if 50 with fail;go_cut[7] (λv wc=>zlv wA wc v (L2++(if f.y=gl.y then[] else[(⟨Zy (gl.y-f.y) 66 65,0,f.move f.x gl.y⟩:Wy)])))
  case first=>
   by_cases hc:f.y=gl.y
   ·have HR:Hid ((if f.y=gl.y then[] else[(⟨Zy (gl.y-f.y) 66 65,0,f.move f.x gl.y⟩:Wy)])=[]):=by show _=_;rw[if_pos hc]
    go_wp2_with fail;go_meet
    case rel=>rw[HR.out,List.append_nil];exact HS2.out
   ·have HR:Hid ((if f.y=gl.y then[] else[(⟨Zy (gl.y-f.y) 66 65,0,f.move f.x gl.y⟩:Wy)])=[(⟨Zy (gl.y-f.y) 66 65,0,f.move f.x gl.y⟩:Wy)]):=by show _=_;rw[if_neg hc]
    have HB:Hid (Below wc.heap.size wc wc.drew):=(Below.refl _ _).drew;have hw2:IntKind.i64.wrap (gl.y-f.y)=gl.y-f.y:=zm _ (by omega) (by omega);go_wp2_with fail;go_region_held_law (λw'=>w'.cell? ⟨M,0,none⟩=some (.int .i64 f.x)/\w'.cell? ⟨M,1,none⟩=some (.int .i64 f.y)/\w'.cell? ⟨M,2,none⟩=some (.bool f.pend)/\w'.cell? ⟨M,3,none⟩=some (.int .i64 f.pen.f)/\w'.cell? ⟨M,4,none⟩=some (.int .i64 f.pen.b)/\w'.cell? ⟨M,5,none⟩=some (.bool f.pen.bo)/\w'.cell? ⟨M,6,none⟩=some (.bool f.pen.un)/\w'.cell? ⟨M,7,none⟩=some (.bool f.pen.re)/\w'.cell? ⟨M+1,0,none⟩=some (.int .i64 gl.x)/\w'.cell? ⟨M+1,1,none⟩=some (.int .i64 gl.y)) (simp[*,zdL]) (first
     |(go_simp;go_at_call 201;refine(zmx _ _ _ _ (by omega) (by omega)).mono ?_;rintro e w5 ⟨rfl,hb5⟩;have hb6:=HB.out.trans (hb5.mono HB.out.size);have e1:=hb6.cells (b:=M) (by omega);have e2:=hb6.cells (b:=M+1) (by omega);clear HB hb5;have HB:Hid _:=hb6;clear hb6)
     |(go_simp;go_at_call 239;refine(zhX f _ _ _).mono ?_;rintro e w6 ⟨rfl,hb5⟩;have hb6:=HB.out.trans (hb5.mono HB.out.size);have e1:=hb6.cells (b:=M) (by omega);have e2:=hb6.cells (b:=M+1) (by omega);have hz6:=hb6.size;have z5:M+1<w6.heap.size:=(by omega);have z6:M<w6.heap.size:=(by omega);clear HB hb5;have HB:Hid _:=hb6;clear hb6)
     |(refine step_append_lies _ (by rfl) (.tmp 51) (.tmp 65) 239 (by rfl) wA.heap.size 237 ti _ 10 72 Tryz.underlying239 i1 i2 i3 i4 rfl (by decide) u7 L2.length (ZG L2) (by simp[Act.eval]) (ZH HS2.out.row (λi hi=>(zN _ _ (Nat.lt_of_lt_of_le (HS2.out.row.lt i hi).2 HB.out.size)).trans (HB.out.block i (HS2.out.row.lt i hi).2))) ⟨w6.heap.size,0,none⟩ 1 1 (Wy.vals (⟨Zy (gl.y-f.y) 66 65,0,f.move f.x gl.y⟩:Wy)) (by simp[Act.eval]) rfl (World.news_of_block (zf w6 _)) (zdN (⟨Zy (gl.y-f.y) 66 65,0,f.move f.x gl.y⟩:Wy)) (by decide) (by unfold maxLen;omega) (by omega) (by simp;omega) _ rfl ?_;intro g7 cap7 w7 hr7 hg7 ho7 hl7;have hsw:=zhd HS2.out (HB.out.alloc HB.out.size _) hg7 hr7;have e1:=hsw.bel.cells (b:=M) (by omega);have e2:=hsw.bel.cells (b:=M+1) (by omega);have HSW:Hid _:=hsw;clear hsw hg7 hr7;(try go_simp)))
    go_wp2_with fail;go_meet
    case rel=>rw[HR.out];exact HSW.out
  case rest=>
   obtain⟨L3,hL3⟩:∃L,L2++(if f.y=gl.y then[] else[(⟨Zy (gl.y-f.y) 66 65,0,f.move f.x gl.y⟩:Wy)])=L:=⟨_,rfl⟩;have HL3:=zH hL3;rw[hL3] at hcut;have HS3:=zH hcut;clear hcut hL3;have hlen:L3.length<=10:=by rw[←HL3.out];simp only[List.length_append];split<;>simp<;>omega
   have hzB:=HS3.out.bel.size;have c1:=HS3.out.bel.cells (b:=M) (by omega);have c2:=HS3.out.bel.cells (b:=M+1) (by omega);go_upto_if 71 with fail;go_cut[7] (λv wc=>zlv wA wc v (L3++(if f.x=gl.x then[] else[(⟨Zy (gl.x-f.x) 67 68,0,f.move gl.x f.y⟩:Wy)])))
   case first=>
    by_cases hc:f.x=gl.x
    ·have HR:Hid ((if f.x=gl.x then[] else[(⟨Zy (gl.x-f.x) 67 68,0,f.move gl.x f.y⟩:Wy)])=[]):=by show _=_;rw[if_pos hc]
     go_wp2_with fail;go_meet
     case rel=>rw[HR.out,List.append_nil];exact HS3.out
    ·have HR:Hid ((if f.x=gl.x then[] else[(⟨Zy (gl.x-f.x) 67 68,0,f.move gl.x f.y⟩:Wy)])=[(⟨Zy (gl.x-f.x) 67 68,0,f.move gl.x f.y⟩:Wy)]):=by show _=_;rw[if_neg hc]
     have HB:Hid (Below wc.heap.size wc wc.drew):=(Below.refl _ _).drew;have hw2:IntKind.i64.wrap (gl.x-f.x)=gl.x-f.x:=zm _ (by omega) (by omega);go_wp2_with fail;go_region_held_law (λw'=>w'.cell? ⟨M,0,none⟩=some (.int .i64 f.x)/\w'.cell? ⟨M,1,none⟩=some (.int .i64 f.y)/\w'.cell? ⟨M,2,none⟩=some (.bool f.pend)/\w'.cell? ⟨M,3,none⟩=some (.int .i64 f.pen.f)/\w'.cell? ⟨M,4,none⟩=some (.int .i64 f.pen.b)/\w'.cell? ⟨M,5,none⟩=some (.bool f.pen.bo)/\w'.cell? ⟨M,6,none⟩=some (.bool f.pen.un)/\w'.cell? ⟨M,7,none⟩=some (.bool f.pen.re)/\w'.cell? ⟨M+1,0,none⟩=some (.int .i64 gl.x)/\w'.cell? ⟨M+1,1,none⟩=some (.int .i64 gl.y)) (simp[*,zdL]) (first
      |(go_simp;go_at_call 201;refine(zmx _ _ _ _ (by omega) (by omega)).mono ?_;rintro e w5 ⟨rfl,hb5⟩;have hb6:=HB.out.trans (hb5.mono HB.out.size);have e1:=hb6.cells (b:=M) (by omega);have e2:=hb6.cells (b:=M+1) (by omega);clear HB hb5;have HB:Hid _:=hb6;clear hb6)
      |(go_simp;go_at_call 239;refine(zhX f _ _ _).mono ?_;rintro e w6 ⟨rfl,hb5⟩;have hb6:=HB.out.trans (hb5.mono HB.out.size);have e1:=hb6.cells (b:=M) (by omega);have e2:=hb6.cells (b:=M+1) (by omega);have hz6:=hb6.size;have z5:M+1<w6.heap.size:=(by omega);have z6:M<w6.heap.size:=(by omega);clear HB hb5;have HB:Hid _:=hb6;clear hb6)
      |(refine step_append_lies _ (by rfl) (.tmp 72) (.tmp 86) 239 (by rfl) wA.heap.size 237 ti _ 10 72 Tryz.underlying239 i1 i2 i3 i4 rfl (by decide) u7 L3.length (ZG L3) (by simp[Act.eval]) (ZH HS3.out.row (λi hi=>(zN _ _ (Nat.lt_of_lt_of_le (HS3.out.row.lt i hi).2 HB.out.size)).trans (HB.out.block i (HS3.out.row.lt i hi).2))) ⟨w6.heap.size,0,none⟩ 1 1 (Wy.vals (⟨Zy (gl.x-f.x) 67 68,0,f.move gl.x f.y⟩:Wy)) (by simp[Act.eval]) rfl (World.news_of_block (zf w6 _)) (zdN (⟨Zy (gl.x-f.x) 67 68,0,f.move gl.x f.y⟩:Wy)) (by decide) (by unfold maxLen;omega) (by omega) (by simp;omega) _ rfl ?_;intro g7 cap7 w7 hr7 hg7 ho7 hl7;have hsw:=zhd HS3.out (HB.out.alloc HB.out.size _) hg7 hr7;have e1:=hsw.bel.cells (b:=M) (by omega);have e2:=hsw.bel.cells (b:=M+1) (by omega);have HSW:Hid _:=hsw;clear hsw hg7 hr7;(try go_simp)))
     go_wp2_with fail;go_meet
     case rel=>rw[HR.out];exact HSW.out
   case rest=>
    obtain⟨L4,hL4⟩:∃L,L3++(if f.x=gl.x then[] else[(⟨Zy (gl.x-f.x) 67 68,0,f.move gl.x f.y⟩:Wy)])=L:=⟨_,rfl⟩;have HL4:=zH hL4;rw[hL4] at hcut;have HS4:=zH hcut;have hlen4:1<=L4.length/\L4.length<=20:=by
     have l3:1<=L3.length:=by
      rw[←HL3.out,←HL2.out];simp only[List.length_append];have:(zeP f gl).length=3:=rfl;omega
     have la:((if f.x=gl.x then[] else[(⟨Zy (gl.x-f.x) 67 68,0,f.move gl.x f.y⟩:Wy)])).length<=1:=by split<;>simp
     rw[←HL4.out,List.length_append];omega
    have hcap4:=hcut.row;obtain⟨g8,cap8,hu7⟩:=zam hcap4 hlen4.1;subst hu7;have hcap5:=zlc hcap4;clear hcut hL4 hcap4;have hzB:=HS4.out.bel.size;have c1:=HS4.out.bel.cells (b:=M) (by omega);have HP4:=zH<|(HP.out.below HbA.out).below HS4.out.bel
    have HEnd:Hid (zbr s f gl=L4++zaZ s f):=by
     show zbr s f gl=_;rw[←HL4.out,←HL3.out,←HL2.out];rfl
    go_wp2_with fail;go_at_call 241;refine(zuO bs bg g N s t f wc HP4.out Hok.out.1 Hok.out.2.1).mono ?_;rintro e w8 ⟨va,rfl,hra,hba⟩;have Hba:=zH hba;have hz8:=hba.size;have HS8:Hid (zlv wA w8 (.slice (some ⟨g8,0,none⟩) L4.length cap8) L4):=⟨ZH HS4.out.row (λi hi=>hba.block i (HS4.out.row.lt i hi).2),HS4.out.bel.trans (hba.mono hzB)⟩;clear hba;have ha1:(zaZ s f).length=0\/∃u,zaZ s f=[u]:=by
     unfold zaZ;split
     ·split
      ·exact .inl rfl
      ·exact .inr ⟨_,rfl⟩
     ·exact .inl rfl
    rcases ha1 with ha1|⟨u,ha1⟩
    ·have ha2:=List.eq_nil_of_length_eq_zero ha1;rw[ha2] at hra;have HA2:=zH ha2;clear ha2 ha1;have hfin:zj5 w (zbr s f gl) (.returned (.slice (some ⟨g8,0,none⟩) L4.length cap8)) w8:=by
      refine⟨_,rfl,?_,HbA.out.trans (HS8.out.bel.mono (by have:=HM.out;omega))⟩;rw[HEnd.out,HA2.out,List.append_nil];exact zje HS8.out.row (by have:=HM.out;omega)
     have HF:Hid _:=hfin;clear hfin;obtain⟨_,hv|⟨ga,ca,cur,hv,_⟩⟩:=hra
     ·obtain⟨rfl,_⟩:=hv;go_wp2_with fail;go_ret;exact HF.out
     ·subst hv;go_wp2_with fail;go_ret;exact HF.out
    ·rw[ha1] at hra;have HA2:=zH ha1;obtain⟨ga,ca,hva⟩:=zam hra (Nat.le_refl _);subst hva;have rgA:=zbt (L:=[u]) (n:=1) hra (k:=0) (by omega);have HrA:Hid (w8.rangeAt ga (0*10) (Wy.vals u)):=rgA;clear ha1 hra rgA;go_wp2_with (at_builtin;refine wpList_append_lies _ (by rfl) (.tmp 88) (.tmp 91) 239 (by rfl) wA.heap.size 237 ti _ 10 72 Tryz.underlying239 i1 i2 i3 i4 rfl (by decide) (.slice (some ⟨g8,0,none⟩) L4.length cap8) L4.length (ZG L4) (by rfl) HS8.out.row ⟨ga,0,none⟩ 1 ca (Wy.vals u) (by rfl) rfl (λj v hv=>by have:=HrA.out j v hv;rw[Addr.add_mid];simpa using this) (zdN u) (by decide) (by unfold maxLen;omega) (by omega) (by omega) _ rfl ?_;intro g7 cap7 w7 hr7 hg7 ho7 hl7);have hsw:=zhd HS8.out (Below.refl _ _) hg7 hr7;have HSW:=zH hsw;clear hsw hg7 hr7;go_ret;refine⟨_,rfl,?_,HbA.out.trans (HSW.out.bel.mono (by have:=HM.out;omega))⟩;rw[HEnd.out,HA2.out];exact zje HSW.out.row (by have:=HM.out;omega)
end
section
open Go.RowKit Go.Maps
theorem zo5:laidOutB Tryz.prog=true:=by kernel_rfl
theorem zrb:(235:TypeId)<Tryz.prog.types.size:=of_decide_eq_true (by kernel_rfl)
theorem zo6:(match Tryz.prog.underlying 235 with|some (.array _ _)|some (.struct _)=>true|_=>false)=true:=by rw[Tryz.underlying235]
theorem zrc:Tryz.prog.keyTypeAt 3 235=true:=by kernel_rfl
theorem zfU:Keyed Tryz.prog 235:=Keyed.of_law (deep_law_laid zo5 (m:=3) (by omega) zrb zrc zo6)
def zmH (p:Sp):List Lit:=[.int .i64 p.x,.int .i64 p.y,.bool p.pend,.int .i64 p.pen.f,.int .i64 p.pen.b,.bool p.pen.bo,.bool p.pen.un,.bool p.pen.re]
def zfe (p:Sp):Lit:=.string (keyBytes (zmH p))
structure Sp.Fits (p:Sp):Prop where
 x:(Lit.int .i64 p.x).wf=true
 y:(Lit.int .i64 p.y).wf=true
 f:(Lit.int .i64 p.pen.f).wf=true
 b:(Lit.int .i64 p.pen.b).wf=true
theorem zs2:Tryz.prog.keyType 235=true:=by kernel_rfl
theorem zo7:Tryz.prog.types.size=304:=by kernel_rfl
theorem zid:Tryz.prog.cellsOf 235=8:=by kernel_rfl
theorem zjf:Tryz.prog.cellsOf 33=5:=by kernel_rfl
theorem zjg:Tryz.prog.cellsOf 3=1:=by kernel_rfl
theorem zie:Tryz.prog.cellsOf 4=1:=by kernel_rfl
theorem zfV (d:Nat) {n:Int} (h:(Lit.int .i64 n).wf=true):Tryz.prog.keyLits (d+1) 3 [.int .i64 n]=some [.int .i64 n]:=by
 unfold Program.keyLits;rw[Tryz.underlying3];simp[h]
theorem zjh (d:Nat) (b:Bool):Tryz.prog.keyLits (d+1) 4 [.bool b]=some [.bool b]:=by
 unfold Program.keyLits;rw[Tryz.underlying4]
theorem zrd (d:Nat) {f b:Int} (bo un re:Bool) (hf:(Lit.int .i64 f).wf=true) (hb:(Lit.int .i64 b).wf=true):Tryz.prog.keyLits (d+2) 33 [.int .i64 f,.int .i64 b,.bool bo,.bool un,.bool re]=some [.int .i64 f,.int .i64 b,.bool bo,.bool un,.bool re]:=by
 unfold Program.keyLits;rw[Tryz.underlying33];simp only[zjf];rw[if_pos (by simp)];simp only[List.mapM_cons,List.mapM_nil,zjg,zie,List.drop_zero,List.drop_succ_cons,List.take_succ_cons,List.take_zero,zfV d hf,zfV d hb,zjh];rfl
theorem zo8 (d:Nat) {p:Sp} (h:p.Fits):Tryz.prog.keyLits (d+3) 235 [.int .i64 p.x,.int .i64 p.y,.bool p.pend,.int .i64 p.pen.f,.int .i64 p.pen.b,.bool p.pen.bo,.bool p.pen.un,.bool p.pen.re]=some (zmH p):=by
 unfold Program.keyLits;rw[Tryz.underlying235];simp only[zid];rw[if_pos (by simp)];simp only[List.mapM_cons,List.mapM_nil,zjg,zie,zjf,List.drop_zero,List.drop_succ_cons,List.take_succ_cons,List.take_zero,zfV (d+1) h.x,zfV (d+1) h.y,zjh,zrd d _ _ _ h.f h.b];rfl
theorem zfw {p:Sp} (h:p.Fits):keyOf Tryz.prog 235 p.agg=some (zfe p):=by
 unfold keyOf;simp only[Tryz.underlying235];rw[if_pos (by simp[zs2,Value.formed,Tryz.underlying235,zid]),zo7];have hl:Tryz.prog.keyLits (304+1) 235 p.agg.cells.toList=some (zmH p):=zo8 302 h;rw[hl];rfl
theorem zo9 {p q:Sp} (hp:p.Fits) (hq:q.Fits) (e:zfe p=zfe q):p=q:=by
 have h1:=zfw hq;rw[←e] at h1;have h:=zfU.inj (zfw hp) h1;obtain⟨x,y,pd,f,b,bo,un,re⟩:=p;obtain⟨x',y',pd',f',b',bo',un',re'⟩:=q;simp at h;simp[h]
theorem zs3 {p:Sp} (h1:-1000000<=p.x/\p.x<=1000000) (h2:-1000000<=p.y/\p.y<=1000000) (h3:-1000000<=p.pen.f/\p.pen.f<=1000000) (h4:-1000000<=p.pen.b/\p.pen.b<=1000000):p.Fits:=
 ⟨WalkArith.wf_i64 (by omega),WalkArith.wf_i64 (by omega),WalkArith.wf_i64 (by omega),WalkArith.wf_i64 (by omega)⟩
theorem zlw {a b:List UInt8} (h:(Lit.string a).sameKey (.string b)=true):Lit.string a=.string b:=by
 simpa[Lit.sameKey] using h
theorem zj6 (a:List UInt8):(Lit.string a).sameKey (.string a)=true:=by
 simp[Lit.sameKey]
def zff (kn:List Sp):DataW Unit:=setOf (.agg []) (kn.map zfe)
theorem zmI (kn:List Sp) (p:Sp):zff (kn ++ [p])=(zff kn).put (zfe p) (.agg []):=by
 unfold zff;rw[List.map_append];exact setOf_snoc _ _ _
theorem zji {kn:List Sp} {p:Sp} (hk:∀q∈kn,q.Fits) (hp:p.Fits):Maps.has (zff kn) (zfe p)=zeE kn p:=by
 unfold zff;rw[has_setOf _ _ _ (λx hx=>by obtain⟨q,hq,rfl⟩:=List.mem_map.1 hx;trivial)];unfold zeE;rw[List.any_map,Bool.eq_iff_iff,List.any_eq_true,List.any_eq_true];constructor
 ·rintro⟨q,hq,e⟩;refine⟨q,hq,Sp.eqB_iff.2 (zo9 (hk q hq) hp ?_)⟩;exact zlw e
 ·rintro⟨q,hq,e⟩;refine⟨q,hq,?_⟩;rw[Sp.eqB_iff.1 e];exact zj6 _
end
section
open Go.RowKit Go.Maps
open Wd (wd)
attribute [local go_sem ↓] Go.wp_at_zero Go.wp_at_succ
abbrev zs4 (w:World) (D:Nat) (v:Wy):World:=((((((((((w.setCell ⟨D,0,none⟩ (.string ⟨v.b.toArray⟩)).setCell ⟨D,1,none⟩ (.int .i64 v.k)).setCell ⟨D,2,none⟩ (.int .i64 v.e.x)).setCell ⟨D,3,none⟩ (.int .i64 v.e.y)).setCell ⟨D,4,none⟩ (.bool v.e.pend)).setCell ⟨D,5,none⟩ (.int .i64 v.e.pen.f)).setCell ⟨D,6,none⟩ (.int .i64 v.e.pen.b)).setCell ⟨D,7,none⟩ (.bool v.e.pen.bo)).setCell ⟨D,8,none⟩ (.bool v.e.pen.un)).setCell ⟨D,9,none⟩ (.bool v.e.pen.re))
theorem zwa (a0 a1 a2 a3 a4 a5 a6 a7 a8 a9 x0 x1 x2 x3 x4 x5 x6 x7 x8 x9:Value):((((((((((#[a0,a1,a2,a3,a4,a5,a6,a7,a8,a9]:Array Value).setIfInBounds 0 x0).setIfInBounds 1 x1).setIfInBounds 2 x2).setIfInBounds 3 x3).setIfInBounds 4 x4).setIfInBounds 5 x5).setIfInBounds 6 x6).setIfInBounds 7 x7).setIfInBounds 8 x8).setIfInBounds 9 x9=#[x0,x1,x2,x3,x4,x5,x6,x7,x8,x9]:=by simp
theorem zpa {w:World} {D:Nat} {a0 a1 a2 a3 a4 a5 a6 a7 a8 a9:Value} {T:TypeId} (v:Wy) (h:w.heap[D]?=some (.cells #[a0,a1,a2,a3,a4,a5,a6,a7,a8,a9] T)):(zs4 w D v).heap[D]?=some (.cells (zcJ v) T):=by
 have h8:=zg (zg (zg (zg (zg (zg (zg (zg (zg (zg h 0 (.string ⟨v.b.toArray⟩)) 1 (.int .i64 v.k)) 2 (.int .i64 v.e.x)) 3 (.int .i64 v.e.y)) 4 (.bool v.e.pend)) 5 (.int .i64 v.e.pen.f)) 6 (.int .i64 v.e.pen.b)) 7 (.bool v.e.pen.bo)) 8 (.bool v.e.pen.un)) 9 (.bool v.e.pen.re);rw[zwa] at h8;exact h8
theorem zgn {F:Nat->Prop} {a w:World} (h:zd F a w) (D:Nat) (v:Wy) (hF:D<a.heap.size->F D):zd F a (zs4 w D v):=
 (((((((((h.setCell ⟨D,0,none⟩ _ hF).setCell ⟨D,1,none⟩ _ hF).setCell ⟨D,2,none⟩ _ hF).setCell ⟨D,3,none⟩ _ hF).setCell ⟨D,4,none⟩ _ hF).setCell ⟨D,5,none⟩ _ hF).setCell ⟨D,6,none⟩ _ hF).setCell ⟨D,7,none⟩ _ hF).setCell ⟨D,8,none⟩ _ hF).setCell ⟨D,9,none⟩ _ hF
theorem zal.gb {w:World} {bo base g cap:Nat} {L:List Wy} (h:zal w bo base g cap L):base<=g:=by
 obtain⟨_,_,_,_,_,q⟩:=zeK h.row;exact q
structure zcN (w0 w:World) (gl:Gl) (p0:Sp) (M P D base bo bm g cap:Nat) (kn:List Sp) (o:List Wy):Prop where
 hM:w.heap[M]?=some (.cells (zgP gl) 211)
 hP:w.heap[P]?=some (.cells (zeO p0) 235)
 hD:w.heap[D]?=some (.cells (zcJ (Zz gl)) 237)
 mb:M<base
 pb:P<base
 db:D<base
 wb:w0.heap.size<=base
 hp:zal w bo base g cap o
 bb:base<=bm
 no:bm≠bo
 ng:bm≠g
 set:w.ownsMap Tryz.prog 235 unitElem bm kn.length (zff kn)
 bel:Below w0.heap.size w0 w
section
variable {w0 w w':World} {gl:Gl} {p0:Sp} {M P D base bo bm g cap:Nat} {kn:List Sp} {o:List Wy}
theorem zcN.ml (h:zcN w0 w gl p0 M P D base bo bm g cap kn o):bm<w.heap.size:=by
 obtain⟨es,c,hb,_⟩:=h.set;exact(Array.getElem?_eq_some_iff.1 hb).1
theorem zcN.bl (h:zcN w0 w gl p0 M P D base bo bm g cap kn o):base<=w.heap.size:=Nat.le_trans h.bb (Nat.le_of_lt h.ml)
theorem zjj {D':DataW Unit} {n:Nat} (h:w.ownsMap Tryz.prog 235 unitElem bm n D') (e:w'.heap[bm]?=w.heap[bm]?):w'.ownsMap Tryz.prog 235 unitElem bm n D':=by
 obtain⟨es,c,hb,r⟩:=h;exact⟨es,c,e.trans hb,r⟩
theorem zcN.below (h:zcN w0 w gl p0 M P D base bo bm g cap kn o) (b:Below w.heap.size w w'):zcN w0 w' gl p0 M P D base bo bm g cap kn o:=
 have hl:=h.bl
 ⟨(b.block M (Nat.lt_of_lt_of_le h.mb hl)).trans h.hM,(b.block P (Nat.lt_of_lt_of_le h.pb hl)).trans h.hP,(b.block D (Nat.lt_of_lt_of_le h.db hl)).trans h.hD,h.mb,h.pb,h.db,h.wb,h.hp.same (b.block _ h.hp.lt) (b.block _ h.hp.glt),h.bb,h.no,h.ng,zjj h.set (b.block _ h.ml),h.bel.trans (b.mono (Nat.le_trans h.wb hl))⟩
theorem zcN.pushed (h:zcN w0 w gl p0 M P D base bo bm g cap kn o) {g' cap':Nat} {o':List Wy} (q:zal w' bo base g' cap' o') (k:zd (λi=>i=bo\/i=g) w w') (og:g'=g\/w.heap.size<=g'):zcN w0 w' gl p0 M P D base bo bm g' cap' kn o':=by
 have hl:=h.bl;have gb:=h.hp.gb;have ob:=h.hp.hb;have far:=fun {i} hi=>k.block i (Nat.lt_of_lt_of_le hi hl) (by omega);have ml:=h.ml;refine⟨(far h.mb).trans h.hM,(far h.pb).trans h.hP,(far h.db).trans h.hD,h.mb,h.pb,h.db,h.wb,q,h.bb,h.no,?_,zjj h.set (k.block bm ml ?_),?_⟩
 ·rcases og with e|e
  ·rw[e];exact h.ng
  ·omega
 ·rintro(e|e)
  ·exact h.no e
  ·exact h.ng e
 ·exact h.bel.trans (k.toBelow (Nat.le_trans h.wb hl) (λi hi=>by have:=h.wb;omega))
theorem zcN.known (h:zcN w0 w gl p0 M P D base bo bm g cap kn o) {p:Sp} (hg:w.grownBy w' (some bm)) (q:w'.ownsMap Tryz.prog 235 unitElem bm (kn.length+1) ((zff kn).put (zfe p) (.agg []))):zcN w0 w' gl p0 M P D base bo bm g cap (kn ++ [p]) o:=by
 have hl:=h.bl;have bb:=h.bb;have k:zd (λi=>i=bm) w w':=zd.grown (zd.refl _ w) hg (λi e _=>by injection e with e;exact e.symm);have far:=fun {i} hi=>k.block i (Nat.lt_of_lt_of_le hi hl) (by omega);refine⟨(far h.mb).trans h.hM,(far h.pb).trans h.hP,(far h.db).trans h.hD,h.mb,h.pb,h.db,h.wb,h.hp.keep k (λe=>h.no e.symm) (λe=>h.ng e.symm),h.bb,h.no,h.ng,?_,?_⟩
 ·rw[zmI,List.length_append];exact q
 ·exact h.bel.trans (k.toBelow (Nat.le_trans h.wb hl) (λi hi=>by have:=h.wb;omega))
theorem zre {wE:World} (hM:wE.heap[M]?=some (.cells (zgP gl) 211)) (hP:wE.heap[P]?=some (.cells (zeO p0) 235)) (hD:wE.heap[D]?=some (.cells (zcJ (Zz gl)) 237)) (hb:Below w0.heap.size w0 wE) (u v:Wy):
 zcN w0 (((wE.alloc (.cells #[.string ⟨u.b.toArray⟩,.int .i64 u.k,.int .i64 u.e.x,.int .i64 u.e.y,.bool u.e.pend,.int .i64 u.e.pen.f,.int .i64 u.e.pen.b,.bool u.e.pen.bo,.bool u.e.pen.un,.bool u.e.pen.re,.string ⟨v.b.toArray⟩,.int .i64 v.k,.int .i64 v.e.x,.int .i64 v.e.y,.bool v.e.pend,.int .i64 v.e.pen.f,.int .i64 v.e.pen.b,.bool v.e.pen.bo,.bool v.e.pen.un,.bool v.e.pen.re] 237)).alloc (.cells #[.slice (some ⟨wE.heap.size,0,none⟩) 2 2] 240)).alloc (.map #[] 0)) gl p0 M P D wE.heap.size (wE.heap.size+1) (wE.heap.size+2) wE.heap.size 2 [] [u,v]:=by
 have m1:=(Array.getElem?_eq_some_iff.1 hM).1;have p1:=(Array.getElem?_eq_some_iff.1 hP).1;have d1:=(Array.getElem?_eq_some_iff.1 hD).1;obtain⟨a1,e1⟩:∃a,wE.alloc (.cells #[.string ⟨u.b.toArray⟩,.int .i64 u.k,.int .i64 u.e.x,.int .i64 u.e.y,.bool u.e.pend,.int .i64 u.e.pen.f,.int .i64 u.e.pen.b,.bool u.e.pen.bo,.bool u.e.pen.un,.bool u.e.pen.re,.string ⟨v.b.toArray⟩,.int .i64 v.k,.int .i64 v.e.x,.int .i64 v.e.y,.bool v.e.pend,.int .i64 v.e.pen.f,.int .i64 v.e.pen.b,.bool v.e.pen.bo,.bool v.e.pen.un,.bool v.e.pen.re] 237)=a:=⟨_,rfl⟩;have z1:a1.heap.size=wE.heap.size+1:=by rw[←e1];simp
 have b1:=e1 ▸ (Below.refl _ _).alloc (Nat.le_refl _) _;have r1:zcA a1 wE.heap.size wE.heap.size 2 2 [u,v]:=by
  refine⟨by simp[ZG],.inr ⟨wE.heap.size,2,_,rfl,Nat.le_refl _,e1 ▸ zf wE _,Nat.le_refl _,by unfold maxLen;omega,rfl,?_⟩⟩;simp[ZG,zaD]
 rw[e1];clear e1;obtain⟨a2,e2⟩:∃a,a1.alloc (.cells #[.slice (some ⟨wE.heap.size,0,none⟩) 2 2] 240)=a:=⟨_,rfl⟩;have z2:a2.heap.size=wE.heap.size+2:=by rw[←e2];simp;omega
 have b2:=e2 ▸ (Below.refl _ _).alloc (Nat.le_refl _) _;have r2:a2.heap[wE.heap.size+1]?=some (.cells #[.slice (some ⟨wE.heap.size,0,none⟩) 2 2] 240):=by rw[←e2,←z1];exact zf a1 _
 rw[e2];clear e2;have b3:Below a2.heap.size a2 (a2.alloc (.map #[] 0)):=(Below.refl _ _).alloc (Nat.le_refl _) _;have bb:=(b1.trans (b2.mono (by omega))).trans (b3.mono (by omega));have mm:=World.ownsMap_made a2 Tryz.prog 235 (unitElem (H:=Unit));rw[z2] at mm;refine⟨(bb.block M m1).trans hM,(bb.block P p1).trans hP,(bb.block D d1).trans hD,m1,p1,d1,hb.size,⟨(b3.block _ (by omega)).trans r2,?_,by omega,by omega⟩,by omega,by omega,by omega,mm,hb.trans (bb.mono hb.size)⟩;exact ZH r1 (λi e=>by
  have e:wE.heap.size=i:=by injection e
  rw[←e];exact(b3.block _ (by omega)).trans (b2.block _ (by omega)))
end
theorem zjk {s:Rs} (ok:s.Ok):zeF s<=25602:=by
 have h1:=ok.w2;have h2:=ok.h2;have:s.H*s.W<=20*40:=Nat.mul_le_mul (by omega) (by omega);unfold zeF;omega
theorem zrf (b:List UInt8) (k:Nat) (hk:k<=b.length) (w:World):(Instr.slice 9 (.string ⟨b.toArray⟩) none (some (.int .i64 k)) none).run Tryz.prog w=.ok (.string ⟨(b.take k).toArray⟩) w:=by
 refine(run_slice_string_h w 9 ⟨b.toArray⟩ Tryz.underlying9 .i64 (k:Int) (by omega) (by show(k:Int)<=(b.length:Int);omega)).trans ?_;have:(⟨b.toArray⟩:ByteArray).extract 0 (k:Int).toNat=⟨(b.take k).toArray⟩:=by
  apply ByteArray.ext;simp[ByteArray.data_extract]
 rw[this]
theorem zrg (b:List UInt8) (k:Nat) (hk:k<=b.length) (w:World):(Instr.slice 9 (.string ⟨b.toArray⟩) (some (.int .i64 k)) none none).run Tryz.prog w=.ok (.string ⟨(b.drop k).toArray⟩) w:=by
 refine(run_slice_string_l w 9 ⟨b.toArray⟩ Tryz.underlying9 .i64 (k:Int) (by omega) (by show(k:Int)<=(b.length:Int);omega)).trans ?_;have:(⟨b.toArray⟩:ByteArray).extract (k:Int).toNat (⟨b.toArray⟩:ByteArray).size=⟨(b.drop k).toArray⟩:=by
  have hz:(⟨b.toArray⟩:ByteArray).size=b.length:=rfl;apply ByteArray.ext;rw[hz];simp[ByteArray.data_extract];exact List.take_of_length_le (by rw[List.length_drop];omega)
 rw[this]
theorem zif {s:Rs} {gl:Gl} (fl:s.Fl) (hg:gl.In s) {p:Sp} (h:zhT s gl p):p.Fits:=by
 have a:=h.1;have b1:=fl.ok.w2;have b2:=fl.ok.h2;have x0:=a.x0;have x1:=a.x1;have y0:=a.y0;have y1:=a.y1;have pn:p.pen.Ok:=by
  rcases h.2 with e|e
  ·rw[e];exact fl.pen
  ·rw[e];exact hg.pen
 obtain⟨c1,c2,c3,c4⟩:=pn;exact zs3 ⟨by omega,by omega⟩ ⟨by omega,by omega⟩ ⟨by omega,by omega⟩ ⟨by omega,by omega⟩
theorem zrh {L:List Wy} {j:Nat} (hj:j<L.length):gW L j=L[j]:=by simp[gW,List.getD,hj]
theorem zfW {n:Nat} {v:Wy} {L:List Wy} {j:Nat} (o:List Wy) (hj:j<L.length):zaC n v (L.take (j+1)) o=if (zaF v (gW L j)).b.length<n then zfc (zaC n v (L.take j) o) (zaF v (gW L j)) else zaC n v (L.take j) o:=by
 unfold zaC;rw[List.take_succ_eq_append_getElem hj,List.foldl_append,zrh hj];rfl
theorem zlx {s:Rs} {f:Sp} {g:Gl} (ok:s.Ok) (hf:f.In s) (hg:g.In s):∀st∈zbr s f g,st.b.length<=100:=by
 have b1:=ok.w2;have b2:=ok.h2;have x0:=hf.x0;have x1:=hf.x1;have y0:=hf.y0;have y1:=hf.y1;have gx0:=hg.x0;have gx1:=hg.x1;have gy0:=hg.y0;have gy1:=hg.y1;intro st hst;unfold zbr zaZ at hst;simp only[List.mem_append,List.mem_cons,List.not_mem_nil,or_false] at hst;rcases hst with(((h|h)|h)|h)|h
 ·rcases h with h|h|h<;>subst h<;>simp
 ·split at h
  ·simp only[List.mem_cons,List.not_mem_nil,or_false] at h;subst h;simp
  ·cases h
 ·split at h
  ·cases h
  ·simp only[List.mem_cons,List.not_mem_nil,or_false] at h;subst h;exact Nat.le_trans (zgb (by omega) (by omega) _ _) (by omega)
 ·split at h
  ·cases h
  ·simp only[List.mem_cons,List.not_mem_nil,or_false] at h;subst h;exact Nat.le_trans (zgb (by omega) (by omega) _ _) (by omega)
 ·split at h
  ·split at h
   ·cases h
   ·simp only[List.mem_cons,List.not_mem_nil,or_false] at h;subst h;exact Nat.le_trans (znu _) (by omega)
  ·cases h
theorem zjl (w:World):(zeroValue 244).run Tryz.prog w=.ok (.agg #[]) w:=by kernel_rfl
end
end Go.Proofs.YtjlfibhbfdckpaaGreatDoor
