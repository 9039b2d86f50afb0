import Derived.Test.YtjlfibhbfdckpaaGreatDoorV07
namespace Go.Proofs.YtjlfibhbfdckpaaGreatDoor
set_option maxHeartbeats 64000000
set_option maxRecDepth 100000
section
open Go.RowKit
attribute [local go_sem ↓] Go.wp_at_zero Go.wp_at_succ
theorem ztZ (bs bc g cap N:Nat) (s:Rs) (n:Int) (w:World) (h:zi w bs bc g cap N s):
 Calls Tryz.prog 194 #[.pointer (some ⟨bs,0,none⟩),.int .i64 n] w (zac bs bc g w (zek s n) (.tuple #[])):=by
 have f6:=h.f6;have f7:=h.f7;have f8:=h.f8;have f9:=h.f9;have f10:=h.f10;have fr:=h.free;have l:=h.lt;have HR:=zH h;clear h;by_cases h0:n=0
 ·subst h0;go_in;go_wp2_with fail;go_end0;exact zaN HR.out 0 Pn.plain rfl _ _
 by_cases h1:n=1
 ·subst h1;go_in;go_wp2_with fail;go_end0;exact zaN HR.out 1 {s.pen with bo:=true} rfl _ _
 by_cases h22:n=22
 ·subst h22;go_in;go_wp2_with fail;go_end0;exact zaN HR.out 22 {s.pen with bo:=false} rfl _ _
 by_cases h4:n=4
 ·subst h4;go_in;go_wp2_with fail;go_end0;exact zaN HR.out 4 {s.pen with un:=true} rfl _ _
 by_cases h24:n=24
 ·subst h24;go_in;go_wp2_with fail;go_end0;exact zaN HR.out 24 {s.pen with un:=false} rfl _ _
 by_cases h7:n=7
 ·subst h7;go_in;go_wp2_with fail;go_end0;exact zaN HR.out 7 {s.pen with re:=true} rfl _ _
 by_cases h27:n=27
 ·subst h27;go_in;go_wp2_with fail;go_end0;exact zaN HR.out 27 {s.pen with re:=false} rfl _ _
 by_cases h39:n=39
 ·subst h39;go_in;go_wp2_with fail;go_end0;exact zaN HR.out 39 {s.pen with f:=0} rfl _ _
 by_cases h49:n=49
 ·subst h49;go_in;go_wp2_with fail;go_end0;exact zaN HR.out 49 {s.pen with b:=0} rfl _ _
 have b0:(n==0)=false:=by simpa using h0
 have b1:(n==1)=false:=by simpa using h1
 have b22:(n==22)=false:=by simpa using h22
 have b4:(n==4)=false:=by simpa using h4
 have b24:(n==24)=false:=by simpa using h24
 have b7:(n==7)=false:=by simpa using h7
 have b27:(n==27)=false:=by simpa using h27
 have b39:(n==39)=false:=by simpa using h39
 have b49:(n==49)=false:=by simpa using h49
 have HP:Hid (zdb s.pen n=if 30<=n/\n<=37 then {s.pen with f:=n-29} else if 40<=n/\n<=47 then {s.pen with b:=n-39} else s.pen):=by
  show zdb s.pen n=_;unfold zdb;rw[if_neg h0,if_neg h1,if_neg h22,if_neg h4,if_neg h24,if_neg h7,if_neg h27,if_neg h39,if_neg h49]
 clear h0 h1 h22 h4 h24 h7 h27 h39 h49;rcases(by omega:n<30\/(30<=n/\n<=37)\/(37<n/\n<40)\/(40<=n/\n<=47)\/47<n) with a|⟨a,a'⟩|⟨a,a'⟩|⟨a,a'⟩|a
 ·have hp:=HP.out;rw[if_neg (by omega),if_neg (by omega)] at hp;have HQ:=zH hp;clear hp;go_in;go_wp2_with fail;go_end0;exact zaN HR.out n s.pen HQ.out _ _
 ·have hp:=HP.out;rw[if_pos (by omega)] at hp;have HQ:=zH hp;clear hp;go_in;go_wp2_with fail;go_end0;exact zaN HR.out n {s.pen with f:=n-29} HQ.out _ _
 ·have hp:=HP.out;rw[if_neg (by omega),if_neg (by omega)] at hp;have HQ:=zH hp;clear hp;go_in;go_wp2_with fail;go_end0;exact zaN HR.out n s.pen HQ.out _ _
 ·have hp:=HP.out;rw[if_neg (by omega),if_pos (by omega)] at hp;have HQ:=zH hp;clear hp;go_in;go_wp2_with fail;go_end0;exact zaN HR.out n {s.pen with b:=n-39} HQ.out _ _
 ·have hp:=HP.out;rw[if_neg (by omega),if_neg (by omega)] at hp;have HQ:=zH hp;clear hp;go_in;go_wp2_with fail;go_end0;exact zaN HR.out n s.pen HQ.out _ _
end
section
open Go.RowKit
open Wd (wd)
attribute [local go_sem ↓] Go.wp_at_zero Go.wp_at_succ
theorem zp9 (x y:Int) (w:World) (hs:ZC x y=false):
 Calls Tryz.prog 30 #[.int .i64 x,.int .i64 y] w λe w'=>e=.returned (.pointer none)/\w'=w:=by
 go_in;go_wp2_with (go_at_call 73;refine(zbv _ _ _).mono ?_;rintro e w' ⟨rfl,rfl⟩);go_ret;exact⟨rfl,rfl⟩
theorem ziU (W H:Nat) (w:World) (w1:1<=W) (w2:W<=40) (h1:1<=H) (h2:H<=20):
 Calls Tryz.prog 30 #[.int .i64 W,.int .i64 H] w λe w'=>∃bs bc g cap,e=.returned (.pointer (some ⟨bs,0,none⟩))/\w.heap.size<=bs/\w.heap.size<=bc/\w.heap.size<=g/\zi w' bs bc g cap (H*W) (zfh W H)/\Below w.heap.size w w':=by
 have hs:ZC W H=true:=Zs.2 (by omega);go_in;go_wp2_with fail;go_at_call 73;refine(zbv _ _ _).mono ?_;rintro e w' ⟨rfl,rfl⟩;go_wp2_with fail;go_at_call 74;refine(zg3 W H _ w1 w2 h1 h2).mono ?_;rintro e wm ⟨bc,g,cap,rfl,hbc,hg,C,B⟩;have HC:=zH C;have lb:=C.lt;have lg:=C.glt;clear C;go_wp2_with fail;go_ret;have hb0:Below wm.heap.size wm (wm.alloc (.cells (zf2 bc (zfh W H)) 104)):=(Below.refl _ _).alloc (Nat.le_refl _) _;refine⟨wm.heap.size,bc,g,cap,rfl,B.size,hbc,hg,⟨zf _ _,HC.out.below hb0,by omega,by omega⟩,B.trans (hb0.mono B.size)⟩
theorem zfH (bs bc g cap N:Nat) (s:Rs) (w:World) (h:zi w bs bc g cap N s):
 Calls Tryz.prog 69 #[.pointer (some ⟨bs,0,none⟩)] w λe w'=>e=.returned (zcs s.W s.H s.x s.y s.pend s.pen s.top s.bot (zat s))/\Below w.heap.size w w':=by
 have f1:=h.f1;have f2:=h.f2;have f3:=h.f3;have f4:=h.f4;have f5:=h.f5;have f6:=h.f6;have f7:=h.f7;have f8:=h.f8;have f9:=h.f9;have f10:=h.f10;have f11:=h.f11;have f12:=h.f12;have f13:=h.f13;have f14:=h.f14;have l:=h.lt;clear h;go_in;go_wp2_with fail;exact bodyPost_ret (v:=zcs s.W s.H s.x s.y s.pend s.pen s.top s.bot (zat s)) (by simp[results,Tryz.results69,go_sem,zat]) rfl ⟨rfl,((Below.refl _ _).alloc (Nat.le_refl _) _).alloc (by simp) _⟩
theorem zkH (w:World):
 Calls Tryz.prog 69 #[.pointer none] w λe w'=>e=.returned (zcs 0 0 0 0 false Pn.plain 0 0 false)/\Below w.heap.size w w':=by
 go_in;go_wp2_with fail;exact bodyPost_ret (v:=zcs 0 0 0 0 false Pn.plain 0 0 false) (by simp[results,Tryz.results69,go_sem,Pn.plain]) rfl ⟨rfl,(Below.refl _ _).alloc (Nat.le_refl _) _⟩
theorem zmd (x y:Int) (w:World):
 Calls Tryz.prog 70 #[.pointer none,.int .i64 x,.int .i64 y] w λe w'=>e=.returned (.tuple #[zbR.agg,.int .i64 1])/\Below w.heap.size w w':=by
 go_in;go_wp2_with fail;exact bodyPost_ret (v:=.tuple #[zbR.agg,.int .i64 1]) (by simp[results,Tryz.results70,go_sem,zbR,Pn.plain]) rfl ⟨rfl,(Below.refl _ _).alloc (Nat.le_refl _) _⟩
theorem ziV (bs bc g cap N:Nat) (s:Rs) (x y:Int) (w:World) (h:zi w bs bc g cap N s) (hin:inG s.W s.H x y=false):
 Calls Tryz.prog 70 #[.pointer (some ⟨bs,0,none⟩),.int .i64 x,.int .i64 y] w λe w'=>e=.returned (.tuple #[zbR.agg,.int .i64 4])/\Below w.heap.size w w':=by
 have f0:=h.f0;have l:=h.lt;have c0:=h.cels.c0;have c1:=h.cels.c1;have lc:=h.cels.lt;clear h;go_in;go_wp2_with fail;go_at_call 92;refine(zbQ bc s.W s.H x y _ ?_ ?_).mono ?_
 ·simp[go_sem,c0,lc]
 ·simp[go_sem,c1,lc]
 rintro e w' ⟨rfl,rfl⟩;go_wp2_with fail;exact bodyPost_ret (v:=.tuple #[zbR.agg,.int .i64 4]) (by simp[results,Tryz.results70,go_sem,zbR,Pn.plain]) rfl ⟨rfl,(Below.refl _ _).alloc (Nat.le_refl _) _⟩
theorem zd2 (bs bc g cap N:Nat) (s:Rs) (x y:Int) (w:World) (h:zi w bs bc g cap N s) (hin:inG s.W s.H x y=true):
 Calls Tryz.prog 70 #[.pointer (some ⟨bs,0,none⟩),.int .i64 x,.int .i64 y] w λe w'=>e=.returned (.tuple #[(s.G x.toNat y.toNat).agg,.int .i64 0])/\Below w.heap.size w w':=by
 obtain⟨x0,x1,y0,y1⟩:=zu.1 hin;have f0:=h.f0;have l:=h.lt;have c0:=h.cels.c0;have c1:=h.cels.c1;have lc:=h.cels.lt;have HC:=zH h.cels;clear h;go_in;go_wp2_with fail;go_at_call 92;refine(zbQ bc s.W s.H x y _ ?_ ?_).mono ?_
 ·simp[go_sem,c0,lc]
 ·simp[go_sem,c1,lc]
 rintro e w' ⟨rfl,rfl⟩;go_wp2_with fail;go_at_call 94;refine(zeo bc g cap s.W s.H N s.G x y _ (HC.out.below ((Below.refl _ _).alloc (Nat.le_refl _) _)) x0 x1 y0 y1).mono ?_;rintro e w2 ⟨rfl,hb2⟩;have hz:w.heap.size<w2.heap.size:=by have:=hb2.size;simp at this;omega
 have hc:=hb2.cells (b:=w.heap.size) (by simp);have hf:=hb2.marks (b:=w.heap.size) (by simp);have hB:=((Below.refl _ _).alloc (Nat.le_refl _) _).trans (hb2.mono (by simp));clear hb2;go_wp2_with fail;exact bodyPost_ret (v:=.tuple #[(s.G x.toNat y.toNat).agg,.int .i64 0]) (by simp[results,Tryz.results70,go_sem,hc]) rfl ⟨rfl,((zd.below (λi=>i=w.heap.size) hB).put7 w.heap.size 0 (s.G x.toNat y.toNat) (λ_=>rfl)).toBelow (Nat.le_refl _) (λi hi=>by omega)⟩
theorem zfI (x y:Int) (w:World):
 Calls Tryz.prog 38 #[.pointer none,.int .i64 x,.int .i64 y] w λe w'=>e=.returned (.int .i64 1)/\w'=w:=by
 go_in;go_wp2_with fail;go_ret;exact⟨rfl,rfl⟩
theorem zgF (bs bc g cap N:Nat) (s:Rs) (x y:Int) (w:World) (h:zi w bs bc g cap N s) (hs:ZC x y=false):
 Calls Tryz.prog 38 #[.pointer (some ⟨bs,0,none⟩),.int .i64 x,.int .i64 y] w (zac bs bc g w s (.int .i64 3)):=by
 go_in;go_wp2_with (go_at_call 73;refine(zbv _ _ _).mono ?_;rintro e w' ⟨rfl,rfl⟩);go_ret;exact Z5 h (zd.refl _ _) (.inl rfl)
theorem zfJ (bs bc g cap N:Nat) (s:Rs) (W H:Nat) (w:World) (h:zi w bs bc g cap N s) (ok:s.Ok) (w1:1<=W) (w2:W<=40) (h1:1<=H) (h2:H<=20):
 Calls Tryz.prog 38 #[.pointer (some ⟨bs,0,none⟩),.int .i64 W,.int .i64 H] w (zac bs bc g w (zaB s W H) (.int .i64 0)):=by
 have hs:ZC W H=true:=Zs.2 (by omega);have f0:=h.f0;have HR:=zH h;have Hok:=zH ok;have nsc:=h.ne1;have lbs:=h.lt;clear h ok;go_in;go_wp2_with fail;go_at_call 73;refine sM (zbv _ _ _) ?_;go_wp2_with fail;go_at_call 90;refine(zhj bc g cap s.W s.H N W H s.G _ HR.out.cels Hok.out.wf w1 w2 h1 h2).mono ?_;rintro e w3 ⟨g3,cap3,rfl,C3,K3,hg3⟩;have hbs:=(K3.block _ lbs nsc).trans HR.out.blk;have K3':zd (λi=>i=bs\/i=bc\/i=g) w w3:=K3.mono (λi hi=>.inr (.inl hi));have q1:w3.cell? ⟨bs,1,none⟩=some (.int .i64 s.W):=za hbs 1;have q2:w3.cell? ⟨bs,2,none⟩=some (.int .i64 s.H):=za hbs 2;have q3:w3.cell? ⟨bs,3,none⟩=some (.int .i64 s.x):=za hbs 3;have q4:w3.cell? ⟨bs,4,none⟩=some (.int .i64 s.y):=za hbs 4;have q11:w3.cell? ⟨bs,11,none⟩=some (.int .i64 s.top):=za hbs 11;have q12:w3.cell? ⟨bs,12,none⟩=some (.int .i64 s.bot):=za hbs 12;have fr:=ze hbs;have HC:=zH C3;have Hbs:=zH hbs;clear C3 hbs K3 HR f0;go_wp2_with fail;have R4:zi ((((w3.setCell ⟨bs,1,none⟩ (.int .i64 W)).setCell ⟨bs,2,none⟩ (.int .i64 H)).setCell ⟨bs,11,none⟩ (.int .i64 0)).setCell ⟨bs,12,none⟩ (.int .i64 ((H:Int)-1))) bs bc g3 cap3 (H*W) {s with W:=W,H:=H,top:=0,bot:=(H:Int)-1,G:=ZJ s.W s.H W s.G}:=by
  have hgne:g3≠bs:=by omega
  refine⟨zg (zg (zg (zg Hbs.out 1 _) 2 _) 11 _) 12 _,HC.out.same ?_ ?_,nsc,λe=>hgne e.symm⟩
  ·rw[Below.heap_setCell _ _ _ _ (λe=>nsc e.symm),Below.heap_setCell _ _ _ _ (λe=>nsc e.symm),Below.heap_setCell _ _ _ _ (λe=>nsc e.symm),Below.heap_setCell _ _ _ _ (λe=>nsc e.symm)]
  ·rw[Below.heap_setCell _ _ _ _ hgne,Below.heap_setCell _ _ _ _ hgne,Below.heap_setCell _ _ _ _ hgne,Below.heap_setCell _ _ _ _ hgne]
 have K4:zd (λi=>i=bs\/i=bc\/i=g) w ((((w3.setCell ⟨bs,1,none⟩ (.int .i64 W)).setCell ⟨bs,2,none⟩ (.int .i64 H)).setCell ⟨bs,11,none⟩ (.int .i64 0)).setCell ⟨bs,12,none⟩ (.int .i64 ((H:Int)-1))):=
  (((K3'.setCell ⟨bs,1,none⟩ _ (λ_=>.inl rfl)).setCell ⟨bs,2,none⟩ _ (λ_=>.inl rfl)).setCell ⟨bs,11,none⟩ _ (λ_=>.inl rfl)).setCell ⟨bs,12,none⟩ _ (λ_=>.inl rfl)
 generalize ((((w3.setCell ⟨bs,1,none⟩ (.int .i64 W)).setCell ⟨bs,2,none⟩ (.int .i64 H)).setCell ⟨bs,11,none⟩ (.int .i64 0)).setCell ⟨bs,12,none⟩ (.int .i64 ((H:Int)-1)))=w4 at *;have f3:w4.cell? ⟨bs,3,none⟩=some (.int .i64 s.x):=R4.f3;have f4:w4.cell? ⟨bs,4,none⟩=some (.int .i64 s.y):=R4.f4;have HR4:=zH R4;clear R4 K3' q1 q2 q3 q4 q11 q12 fr HC Hbs;go_region_with (first|(go_at_call 91;refine(zdU bs bc g3 cap3 (H*W) {s with W:=W,H:=H,top:=0,bot:=(H:Int)-1,G:=ZJ s.W s.H W s.G} s.x s.y _ HR4.out.drew).mono ?_;rintro e w5 ⟨rfl,R5,K5⟩));all_goals
  have K6:=K4.trans (⟨K5.os,K5.tape,K5.output,K5.size,K5.block⟩:zd (λi=>i=bs) w4 w5) (λi _ hi=>.inl hi);clear K5;go_wp2_with fail;go_ret;exact Z5 (s:=zaB s W H) R5 K6 (.inr hg3)
end
section
open Go.RowKit
theorem zfK (c:Int) (w:World) (c0:0<=c) (c1:c<=255):
 Calls Tryz.prog 134 #[.int .u8 c] w λe w'=>e=.returned (.int .i64 (zQ c))/\w'=w:=by
 rcases(by omega:c<194\/(194<=c/\c<=223)\/(224<=c/\c<=239)\/(240<=c/\c<=244)\/245<=c) with h|⟨h,h'⟩|⟨h,h'⟩|⟨h,h'⟩|h
 ·rw[show zQ c=0 from by unfold zQ;rw[if_neg (by omega),if_neg (by omega),if_neg (by omega)]];go_in;go_wp2;go_ret;exact⟨rfl,rfl⟩
 ·rw[show zQ c=2 from by unfold zQ;rw[if_pos (by omega)]];go_in;go_wp2;go_ret;exact⟨rfl,rfl⟩
 ·rw[show zQ c=3 from by unfold zQ;rw[if_neg (by omega),if_pos (by omega)]];go_in;go_wp2;go_ret;exact⟨rfl,rfl⟩
 ·rw[show zQ c=4 from by unfold zQ;rw[if_neg (by omega),if_neg (by omega),if_pos (by omega)]];go_in;go_wp2;go_ret;exact⟨rfl,rfl⟩
 ·rw[show zQ c=0 from by unfold zQ;rw[if_neg (by omega),if_neg (by omega),if_neg (by omega)]];go_in;go_wp2;go_ret;exact⟨rfl,rfl⟩
theorem zhE (a:UInt8) (c:Int) (w:World) (c0:0<=c) (c1:c<=255):
 Calls Tryz.prog 135 #[.string ⟨#[a]⟩,.int .u8 c] w λe w'=>e=.returned (.bool (zq [a] c))/\w'=w:=by
 have ha:a.toNat<256:=a.toNat_lt;have e0:(({data:=#[a]}:ByteArray)[0]'(Nat.one_pos)).toNat=a.toNat:=rfl;rcases(by omega:(a.toNat:Int)=224\/(a.toNat:Int)=237\/(a.toNat:Int)=240\/(a.toNat:Int)=244\/((a.toNat:Int)≠224/\(a.toNat:Int)≠237/\(a.toNat:Int)≠240/\(a.toNat:Int)≠244)) with q|q|q|q|⟨q1,q2,q3,q4⟩
 ·have hg:zq [a] c=(decide (160<=c)&&decide (c<=191)):=by simp only[zq,zbb,Z6,q];simp
  rw[hg];clear hg;rcases(by omega:c<160\/(160<=c/\c<=191)\/191<c) with h|⟨h,h'⟩|h
  ·rw[show(decide (160<=c)&&decide (c<=191))=false from by simp;omega];go_in;go_wp2;go_ret;exact⟨by first|rfl|(simp;omega),rfl⟩
  ·rw[show(decide (160<=c)&&decide (c<=191))=true from by simp;omega];go_in;go_wp2;go_ret;exact⟨by first|rfl|(simp;omega),rfl⟩
  ·rw[show(decide (160<=c)&&decide (c<=191))=false from by simp;omega];go_in;go_wp2;go_ret;exact⟨by first|rfl|(simp;omega),rfl⟩
 ·have hg:zq [a] c=(decide (128<=c)&&decide (c<=159)):=by simp only[zq,zbb,Z6,q];simp
  rw[hg];clear hg;rcases(by omega:c<128\/(128<=c/\c<=159)\/159<c) with h|⟨h,h'⟩|h
  ·rw[show(decide (128<=c)&&decide (c<=159))=false from by simp;omega];go_in;go_wp2;go_ret;exact⟨by first|rfl|(simp;omega),rfl⟩
  ·rw[show(decide (128<=c)&&decide (c<=159))=true from by simp;omega];go_in;go_wp2;go_ret;exact⟨by first|rfl|(simp;omega),rfl⟩
  ·rw[show(decide (128<=c)&&decide (c<=159))=false from by simp;omega];go_in;go_wp2;go_ret;exact⟨by first|rfl|(simp;omega),rfl⟩
 ·have hg:zq [a] c=(decide (144<=c)&&decide (c<=191)):=by simp only[zq,zbb,Z6,q];simp
  rw[hg];clear hg;rcases(by omega:c<144\/(144<=c/\c<=191)\/191<c) with h|⟨h,h'⟩|h
  ·rw[show(decide (144<=c)&&decide (c<=191))=false from by simp;omega];go_in;go_wp2;go_ret;exact⟨by first|rfl|(simp;omega),rfl⟩
  ·rw[show(decide (144<=c)&&decide (c<=191))=true from by simp;omega];go_in;go_wp2;go_ret;exact⟨by first|rfl|(simp;omega),rfl⟩
  ·rw[show(decide (144<=c)&&decide (c<=191))=false from by simp;omega];go_in;go_wp2;go_ret;exact⟨by first|rfl|(simp;omega),rfl⟩
 ·have hg:zq [a] c=(decide (128<=c)&&decide (c<=143)):=by simp only[zq,zbb,Z6,q];simp
  rw[hg];clear hg;rcases(by omega:c<128\/(128<=c/\c<=143)\/143<c) with h|⟨h,h'⟩|h
  ·rw[show(decide (128<=c)&&decide (c<=143))=false from by simp;omega];go_in;go_wp2;go_ret;exact⟨by first|rfl|(simp;omega),rfl⟩
  ·rw[show(decide (128<=c)&&decide (c<=143))=true from by simp;omega];go_in;go_wp2;go_ret;exact⟨by first|rfl|(simp;omega),rfl⟩
  ·rw[show(decide (128<=c)&&decide (c<=143))=false from by simp;omega];go_in;go_wp2;go_ret;exact⟨by first|rfl|(simp;omega),rfl⟩
 ·have hg:zq [a] c=(decide (128<=c)&&decide (c<=191)):=by simp only[zq,zbb,Z6,q1,q2,q3,q4,if_false]
  rw[hg];clear hg;have b1:((a.toNat:Int)==224)=false:=by simpa using q1
  have b2:((a.toNat:Int)==237)=false:=by simpa using q2
  have b3:((a.toNat:Int)==240)=false:=by simpa using q3
  have b4:((a.toNat:Int)==244)=false:=by simpa using q4
  clear q1 q2 q3 q4;rcases(by omega:c<128\/(128<=c/\c<=191)\/191<c) with h|⟨h,h'⟩|h
  ·rw[show(decide (128<=c)&&decide (c<=191))=false from by simp;omega];go_in;go_wp2;go_ret;exact⟨by first|rfl|(simp;omega),rfl⟩
  ·rw[show(decide (128<=c)&&decide (c<=191))=true from by simp;omega];go_in;go_wp2;go_ret;exact⟨by first|rfl|(simp;omega),rfl⟩
  ·rw[show(decide (128<=c)&&decide (c<=191))=false from by simp;omega];go_in;go_wp2;go_ret;exact⟨by first|rfl|(simp;omega),rfl⟩
theorem zhF (a b:UInt8) (c:Int) (w:World) (c0:0<=c) (c1:c<=255):
 Calls Tryz.prog 135 #[.string ⟨#[a,b]⟩,.int .u8 c] w λe w'=>e=.returned (.bool (zq [a,b] c))/\w'=w:=by
 have hg:zq [a,b] c=(decide (128<=c)&&decide (c<=191)):=rfl;rw[hg];clear hg;rcases(by omega:c<128\/(128<=c/\c<=191)\/191<c) with h|⟨h,h'⟩|h
 ·rw[show(decide (128<=c)&&decide (c<=191))=false from by simp;omega];go_in;go_wp2;go_ret;exact⟨by first|rfl|(simp;omega),rfl⟩
 ·rw[show(decide (128<=c)&&decide (c<=191))=true from by simp;omega];go_in;go_wp2;go_ret;exact⟨by first|rfl|(simp;omega),rfl⟩
 ·rw[show(decide (128<=c)&&decide (c<=191))=false from by simp;omega];go_in;go_wp2;go_ret;exact⟨by first|rfl|(simp;omega),rfl⟩
theorem zhG (a b d:UInt8) (c:Int) (w:World) (c0:0<=c) (c1:c<=255):
 Calls Tryz.prog 135 #[.string ⟨#[a,b,d]⟩,.int .u8 c] w λe w'=>e=.returned (.bool (zq [a,b,d] c))/\w'=w:=by
 have hg:zq [a,b,d] c=(decide (128<=c)&&decide (c<=191)):=rfl;rw[hg];clear hg;rcases(by omega:c<128\/(128<=c/\c<=191)\/191<c) with h|⟨h,h'⟩|h
 ·rw[show(decide (128<=c)&&decide (c<=191))=false from by simp;omega];go_in;go_wp2;go_ret;exact⟨by first|rfl|(simp;omega),rfl⟩
 ·rw[show(decide (128<=c)&&decide (c<=191))=true from by simp;omega];go_in;go_wp2;go_ret;exact⟨by first|rfl|(simp;omega),rfl⟩
 ·rw[show(decide (128<=c)&&decide (c<=191))=false from by simp;omega];go_in;go_wp2;go_ret;exact⟨by first|rfl|(simp;omega),rfl⟩
theorem zhH (a b:UInt8) (w:World) (h1:194<=a.toNat) (h2:a.toNat<=223) (l1:128<=b.toNat) (u1:b.toNat<=191):
 Calls Tryz.prog 136 #[.string ⟨#[a,b]⟩] w λe w'=>e=.returned (.int .i32 (Zn [a,b]))/\w'=w:=by
 have e0:(({data:=#[a,b]}:ByteArray)[0]'(show 0<2 by decide)).toNat=a.toNat:=rfl;have e1:(({data:=#[a,b]}:ByteArray)[1]'(show 1<2 by decide)).toNat=b.toNat:=rfl;go_in;go_wp2_with fail;refine wp_loop_rounds 2 ?_;rw[rounds_succ];go_wp2_with fail;rw[rounds_succ];go_wp2_with fail;go_ret;exact⟨rfl,rfl⟩
theorem zhI (a b c:UInt8) (w:World) (h1:224<=a.toNat) (h2:a.toNat<=239) (l1:128<=b.toNat) (u1:b.toNat<=191) (l2:128<=c.toNat) (u2:c.toNat<=191):
 Calls Tryz.prog 136 #[.string ⟨#[a,b,c]⟩] w λe w'=>e=.returned (.int .i32 (Zn [a,b,c]))/\w'=w:=by
 have e0:(({data:=#[a,b,c]}:ByteArray)[0]'(show 0<3 by decide)).toNat=a.toNat:=rfl;have e1:(({data:=#[a,b,c]}:ByteArray)[1]'(show 1<3 by decide)).toNat=b.toNat:=rfl;have e2:(({data:=#[a,b,c]}:ByteArray)[2]'(show 2<3 by decide)).toNat=c.toNat:=rfl;go_in;go_wp2_with fail;refine wp_loop_rounds 3 ?_;rw[rounds_succ];go_wp2_with fail;rw[rounds_succ];go_wp2_with fail;rw[rounds_succ];go_wp2_with fail;go_ret;exact⟨rfl,rfl⟩
theorem zhJ (a b c d:UInt8) (w:World) (h1:240<=a.toNat) (h2:a.toNat<=244) (l1:128<=b.toNat) (u1:b.toNat<=191) (l2:128<=c.toNat) (u2:c.toNat<=191) (l3:128<=d.toNat) (u3:d.toNat<=191):
 Calls Tryz.prog 136 #[.string ⟨#[a,b,c,d]⟩] w λe w'=>e=.returned (.int .i32 (Zn [a,b,c,d]))/\w'=w:=by
 have e0:(({data:=#[a,b,c,d]}:ByteArray)[0]'(show 0<4 by decide)).toNat=a.toNat:=rfl;have e1:(({data:=#[a,b,c,d]}:ByteArray)[1]'(show 1<4 by decide)).toNat=b.toNat:=rfl;have e2:(({data:=#[a,b,c,d]}:ByteArray)[2]'(show 2<4 by decide)).toNat=c.toNat:=rfl;have e3:(({data:=#[a,b,c,d]}:ByteArray)[3]'(show 3<4 by decide)).toNat=d.toNat:=rfl;go_in;go_wp2_with fail;refine wp_loop_rounds 4 ?_;rw[rounds_succ];go_wp2_with fail;rw[rounds_succ];go_wp2_with fail;rw[rounds_succ];go_wp2_with fail;rw[rounds_succ];go_wp2_with fail;go_ret;exact⟨rfl,rfl⟩
end
section
open Go.RowKit
open Wd (wd)
attribute [local go_sem ↓] Go.wp_at_zero Go.wp_at_succ
theorem zth (bs bc g cap N:Nat) (s:Rs) (r:Int) (w:World) (h:zi w bs bc g cap N s) (r0:-2147483648<=r) (r1:r<=2147483647) (hz:wd r=0):
 Calls Tryz.prog 165 #[.pointer (some ⟨bs,0,none⟩),.int .i32 r] w (zac bs bc g w (zba s r) (.tuple #[])):=by
 have HP:Hid (zba s r={s with odd:=wrap64 (s.odd+1)}):=by
  show zba s r=_;unfold zba;exact if_pos hz
 have hq:(wd r==0)=true:=by simp[hz]
 clear hz;go_in;go_wp2_with fail;go_at_call 65;refine(Wd.refWidth r _ r0 r1).mono ?_;rintro e w1 ⟨rfl,hb1⟩;have HR1:Hid (zi w1 bs bc g cap N s):=h.below hb1;have K1:zd (λi=>i=bs\/i=bc\/i=g) w w1:=zd.below _ hb1;have f15:=HR1.out.f15;have fr:=HR1.out.free;clear h hb1;go_wp2_with fail;have R9:zi (w1.setCell ⟨bs,15,none⟩ (.int .i64 (wrap64 (s.odd+1)))) bs bc g cap N (zba s r):=by
  rw[HP.out];exact HR1.out.setOdd _
 exact bodyPost_ret (v:=.tuple #[]) (by simp[results,Tryz.results165,go_sem]) rfl (Z5 R9 (K1.setCell ⟨bs,15,none⟩ _ (λ_=>.inl rfl)) (.inl rfl))
theorem zrz (bs bc g cap N:Nat) (s:Rs) (r:Int) (w:World) (h:zi w bs bc g cap N s) (ok:s.Ok) (r0:-2147483648<=r) (r1:r<=2147483647):
 Calls Tryz.prog 165 #[.pointer (some ⟨bs,0,none⟩),.int .i32 r] w (zac bs bc g w (zba s r) (.tuple #[])):=by
 by_cases hz:wd r=0
 ·exact zth bs bc g cap N s r w h r0 r1 hz
 obtain⟨K,R,HP,rr0,rr1,way⟩:∃K R:Int,Hid (zba s r=zcr (za8 (zaa s K) R) K)/\-2147483648<=R/\R<=2147483647/\(wd r=1/\K=1/\R=r\/wd r=2/\((s.W:Int)==1)=true/\K=1/\R=32\/wd r=2/\((s.W:Int)==1)=false/\K=2/\R=r):=by
  refine⟨ze1 s.W r,zeq s.W r,if_neg hz,?_,?_,?_⟩
  ·unfold zeq;split<;>omega
  ·unfold zeq;split<;>omega
  ·have:=Wd.wd_cases r;unfold ze1 zeq;by_cases hW:wd r=2/\s.W=1
   ·rw[if_pos hW,if_pos hW];exact .inr (.inl ⟨hW.1,by simp[hW.2],rfl,rfl⟩)
   ·rw[if_neg hW,if_neg hW];by_cases h2:wd r=2
    ·exact .inr (.inr ⟨h2,by simp;omega,h2,rfl⟩)
    ·exact .inl ⟨by omega,by omega,rfl⟩
 have wr:Hid (zb8 s K=true)/\(s.pend=true\/s.pend=false/\K=2/\(s.x==(s.W:Int)-1)=true)\/Hid (zb8 s K=false)/\s.pend=false/\(K=1\/K=2/\(s.x==(s.W:Int)-1)=false):=by
  have k:K=1\/K=2:=by omega
  cases hp:s.pend
  ·rcases k with rfl|rfl
   ·exact .inr ⟨by show zb8 s 1=false;simp[zb8,hp],rfl,.inl rfl⟩
   ·by_cases hx:s.x=(s.W:Int)-1
    ·exact .inl ⟨by show zb8 s 2=true;simp[zb8,hx],.inr ⟨rfl,rfl,by simp[hx]⟩⟩
    ·exact .inr ⟨by show zb8 s 2=false;simp[zb8,hp,hx],rfl,.inr ⟨rfl,by simp[hx]⟩⟩
  ·exact .inl ⟨by show zb8 s K=true;simp[zb8,hp],.inl rfl⟩
 have hq:(wd r==0)=false:=by simp[hz]
 have Hok:Hid s.Ok:=ok;have ok0:Hid (Rs.Ok { ({s with x:=0}:Rs) with pend:=false}):=zpx ok;have W1:=ok.w1;have W2:=ok.w2;have X0:=ok.x0;have X1:=ok.x1;have hv0:IntKind.i64.wrap ((s.W:Int)-1)=(s.W:Int)-1:=zm _ (by omega) (by omega);clear ok hz;go_in;go_wp2_with fail;go_at_call 65;refine(Wd.refWidth r _ r0 r1).mono ?_;rintro e w1 ⟨rfl,hb1⟩;have HR1:Hid (zi w1 bs bc g cap N s):=h.below hb1;have K1:zd (λi=>i=bs\/i=bc\/i=g) w w1:=zd.below _ hb1;have f1:=HR1.out.f1;have f3:=HR1.out.f3;have f5:=HR1.out.f5;clear h hb1;rcases way with⟨hw,rfl,rfl⟩|⟨hw,hW,rfl,rfl⟩|⟨hw,hW,rfl,rfl⟩<;>rcases wr with⟨hwr,hp|⟨hp,kk,hx⟩⟩|⟨hwr,hp,kk|⟨kk,hx⟩⟩;all_goals first|exact absurd kk (by decide)|skip
 all_goals
  try clear kk
  go_wp2_with fail;go_quiet (fail);have HR2:Hid (zi (w1.drewN nq) bs bc g cap N s):=HR1.out.drewN nq;have K2:zd (λi=>i=bs\/i=bc\/i=g) w (w1.drewN nq):=K1.drewN nq;generalize w1.drewN nq=w2 at *;clear f1 f3 f5 HR1 K1;first
   |(have Hs1:=zH (show zaa s _=zt {s with x:=0} from if_pos hwr.out)
     have f3:=HR2.out.f3;have fr:=HR2.out.free;have l2:=HR2.out.lt;go_wp2_with fail;go_at_call 190;refine(zgx bs bc g cap N {s with x:=0} _ (HR2.out.setX 0) ok0.out).mono ?_;rintro e w5 ⟨g5,cap5,N5,rfl,R5,K4,hg5⟩;have K5:zd (λi=>i=bs\/i=bc\/i=g) w w5:=(K2.setCell ⟨bs,3,none⟩ _ (λ_=>.inl rfl)).trans K4 (λ_ _ h=>h);have Hg6:Hid (g5=g\/w.heap.size<=g5):=hg5.imp id (λq=>by rw[zbA] at q;have:=K2.size;omega);clear K4 hg5 K2 HR2 f3 fr;have ok1:(zt {s with x:=0}).Ok:=zpy Hok.out;generalize zt {s with x:=0}=s1 at *)
   |(have Hs1:=zH (show zaa s _=s from if_neg (by rw[hwr.out];decide))
     have R5:=HR2.out;have K5:=K2;have ok1:=Hok.out;generalize hge:g=g5 at R5;generalize hce:cap=cap5 at R5;generalize hNe:N=N5 at R5;have Hg6:Hid (g5=g\/w.heap.size<=g5):=.inl hge.symm;clear hge hce hNe K2 HR2;generalize w2=w5 at *;generalize hse:s=s1 at R5 ok1;replace Hs1:=zH (Hs1.out.trans hse);clear hse)
  have HR5:Hid (zi w5 bs bc g5 cap5 N5 s1):=R5;have x0:=ok1.x0;have x1:=ok1.x1;have y0:=ok1.y0;have w40:=ok1.w2;have w01:=ok1.w1;have f0:=R5.f0;have f3:=R5.f3;have f4:=R5.f4;have f6:=R5.f6;have f7:=R5.f7;have f8:=R5.f8;have f9:=R5.f9;have f10:=R5.f10;have l5:=R5.lt;have ne5:=R5.ne2;have Hok1:Hid s1.Ok:=ok1;clear R5 ok1;go_wp2_with fail;go_region_held3 (λw'=>w'.cell? ⟨bs,0,none⟩=some (.pointer (some ⟨bc,0,none⟩))/\w'.cell? ⟨bs,3,none⟩=some (.int .i64 s1.x)/\w'.cell? ⟨bs,4,none⟩=some (.int .i64 s1.y)/\w'.cell? ⟨bs,6,none⟩=some (.int .i64 s1.pen.f)/\w'.cell? ⟨bs,7,none⟩=some (.int .i64 s1.pen.b)/\w'.cell? ⟨bs,8,none⟩=some (.bool s1.pen.bo)/\w'.cell? ⟨bs,9,none⟩=some (.bool s1.pen.un)/\w'.cell? ⟨bs,10,none⟩=some (.bool s1.pen.re)) (simp[*]) (first|(go_at_call 83;refine(zkn bc g5 cap5 s1.W s1.H N5 s1.G s1.x s1.y _ s1.pen _ HR5.out.cels.drew Hok1.out.wf (by omega) (by omega) (by omega) (by omega)).mono ?_;rintro e w6 ⟨rfl,C6,K6⟩;have e1:=zaT K6 l5 ne5));have K6:zd (λi=>i=g5) w5 w6:=⟨K6.os,K6.tape,K6.output,K6.size,K6.block⟩;first|have R6:=HR5.out.cells (za8 s1 r) (K6.block _ l5 ne5) C6 rfl HR5.out.ne2|have R6:=HR5.out.cells (za8 s1 R) (K6.block _ l5 ne5) C6 rfl HR5.out.ne2|have R6:=HR5.out.cells (za8 s1 32) (K6.block _ l5 ne5) C6 rfl HR5.out.ne2
  have K7:zd (λi=>i=bs\/i=bc\/i=g) w w6:=K5.trans K6 (λi hi e=>by have:=Hg6.out;omega);have HR6:=zH R6;have f1:w6.cell? ⟨bs,1,none⟩=some (.int .i64 s1.W):=R6.f1;have f3:w6.cell? ⟨bs,3,none⟩=some (.int .i64 s1.x):=R6.f3;have f5:w6.cell? ⟨bs,5,none⟩=some (.bool s1.pend):=R6.f5;have fr:=R6.free;have hv:IntKind.i64.wrap (s1.x+1)=s1.x+1:=zm _ (by omega) (by omega);have hv2:IntKind.i64.wrap (s1.x+2)=s1.x+2:=zm _ (by omega) (by omega);rename_i hS;clear hS e1 C6 K6 R6 K5 HR5;go_wp2_with fail;go_quiet (fail);go_wp2_with fail;all_goals go_end0
  ·exact Z5 (g':=g5) (cap':=cap5) (N':=N5) (by
    rw[HP.out,Hs1.out];unfold zcr;rw[if_pos (by assumption)];exact((HR6.out.drewN nq).setX ((s1.W:Int)-1)).setPend true) (((K7.drewN nq).setCell ⟨bs,3,none⟩ _ (λ_=>.inl rfl)).setCell ⟨bs,5,none⟩ _ (λ_=>.inl rfl)) Hg6.out
  ·exact Z5 (g':=g5) (cap':=cap5) (N':=N5) (by
    rw[HP.out,Hs1.out];unfold zcr;rw[if_neg (by show¬(s1.W:Int)<=s1.x+_;omega)];exact(HR6.out.drewN nq).setX (s1.x+_)) ((K7.drewN nq).setCell ⟨bs,3,none⟩ _ (λ_=>.inl rfl)) Hg6.out
end
end Go.Proofs.YtjlfibhbfdckpaaGreatDoor
