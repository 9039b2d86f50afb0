import Derived.Test.YtjlfibhbfdckpaaGreatDoorV17
import Derived.Shelf.Unicode.DecodeSlow
namespace Go.Proofs.YtjlfibhbfdckpaaGreatDoor
set_option maxHeartbeats 64000000
set_option maxRecDepth 100000
section
open Go.RowKit
attribute [local go_sem ↓] Go.wp_at_zero Go.wp_at_succ
theorem zcg (x y:Int) (w:World):
 Calls Tryz.prog 46 #[.int .i64 x,.int .i64 y] w λe w'=>e=.returned (.bool (ZC x y))/\w'=w:=by
 cases h1:Wd.inB x 1 40<;>cases h2:Wd.inB y 1 20;all_goals
  go_in;go_wp2_with (first|(go_at_call 107;refine sM (zan _ _ _ _) ?_));go_ret;exact⟨by simp[ZC,h1,h2],rfl⟩
def zl2:Pt:=⟨0,λ_=>0,0,λ_=>0,0,false⟩
theorem zvx (W H:Nat) (w:World) (w1:1<=W) (w2:W<=40) (h1:1<=H) (h2:H<=20):
 Calls Tryz.prog 106 #[.int .i64 W,.int .i64 H] w λe w'=>∃bs bg g,e=.returned (.pointer (some ⟨bs,0,none⟩))/\zh w' bs bg g (H*W) (zfh W H) zl2/\Below w.heap.size w w'/\w.heap.size<=bs/\w.heap.size<=bg/\w.heap.size<=g:=by
 go_in;go_wp2_with fail;go_at_call 108;refine(zrU W H _ w1 w2 h1 h2).mono ?_;rintro e wa ⟨bg,g,rfl,G1,b1,lb,lg⟩;have HG1:=zH G1;have HB1:=zH b1;clear G1 b1;go_wp2_with fail;go_ret;have hl:=HG1.out.lt;have hgl:=HG1.out.glt;have hbl:Below wa.heap.size wa (wa.alloc (.cells (zdh bg (zfh W H) zl2) 153)):=(Below.refl _ _).alloc (Nat.le_refl _) _;exact⟨wa.heap.size,bg,g,rfl,⟨zf wa _,HG1.out.below hbl,by omega,by omega⟩,HB1.out.trans (hbl.mono HB1.out.size),HB1.out.size,lb,lg⟩
theorem znl (bs bg g N:Nat) (s:Rs) (t:Pt) (W H:Nat) (w:World) (h:zh w bs bg g N s t) (ok:s.Ok) (w1:1<=W) (w2:W<=40) (h1:1<=H) (h2:H<=20):
 Calls Tryz.prog 59 #[.pointer (some ⟨bs,0,none⟩),.int .i64 W,.int .i64 H] w (zvu bs bg g w (zaB s W H) t (.tuple #[])):=by
 have HP:=zH h;have Hok:=zH ok;have c0:=h.f0;clear h ok;go_in;go_wp2_with fail;go_at_call 119;refine(ztv bg g s.W s.H N W H s.G _ HP.out.gr Hok.out.wf w1 w2 h1 h2).mono ?_;rintro e wa ⟨g1,rfl,G1,K1,hg1⟩;have hlt:=HP.out.lt;have hne:bs≠bg/\bs≠g:=⟨HP.out.ne1,HP.out.ne2⟩;have HP1:Hid (zh wa bs bg g1 (H*W) {s with W:=W,H:=H,G:=ZJ s.W s.H W s.G} t):=HP.out.cells _ (K1.block _ hlt (by omega)) G1 rfl (by omega);have HK1:Hid (zd (λi=>i=bs\/i=bg\/i=g) w wa):=K1.mono (λ_ h=>Or.inr h);clear G1 K1 HP c0;have c9:=HP1.out.f9;have c10:=HP1.out.f10;have fz:=HP1.out.free;go_wp2_with fail;have HP2:Hid (zh ((wa.setCell ⟨bs,9,none⟩ (.int .i64 0)).setCell ⟨bs,10,none⟩ (.int .i64 ((H:Int)-1))) bs bg g1 (H*W) {s with W:=W,H:=H,top:=0,bot:=(H:Int)-1,G:=ZJ s.W s.H W s.G} t):=(HP1.out.setTop 0).setBot _;have HK2:Hid (zd (λi=>i=bs\/i=bg\/i=g) w ((wa.setCell ⟨bs,9,none⟩ (.int .i64 0)).setCell ⟨bs,10,none⟩ (.int .i64 ((H:Int)-1)))):=(HK1.out.setCell ⟨bs,9,none⟩ _ (λ_=>Or.inl rfl)).setCell ⟨bs,10,none⟩ _ (λ_=>Or.inl rfl);generalize (wa.setCell ⟨bs,9,none⟩ (.int .i64 0)).setCell ⟨bs,10,none⟩ (.int .i64 ((H:Int)-1))=wb at *;clear HP1 HK1 c9 c10 fz;have c1:wb.cell? ⟨bs,1,none⟩=some (.int .i64 s.x):=HP2.out.f1;have c2:wb.cell? ⟨bs,2,none⟩=some (.int .i64 s.y):=HP2.out.f2;go_region_with (first|(go_at_call 120;refine(zfb bs bg g1 (H*W) {s with W:=W,H:=H,top:=0,bot:=(H:Int)-1,G:=ZJ s.W s.H W s.G} t s.x s.y _ HP2.out.drew).mono ?_;rintro e w5 ⟨rfl,R5,K5⟩));all_goals
  go_end0;refine⟨g1,H*W,rfl,R5,(HK2.out.drew).trans K5 (λi hi h=>by omega),Or.inr hg1⟩
end
section
open Go.RowKit Go.Lib
attribute [local go_sem ↓] Go.wp_at_zero Go.wp_at_succ
structure Fst (w:World) (x0 X i lo hi:Nat):Prop where
 l0:x0<256
 hX:X<240
 id:(X:Int)/16=i
 i16:i<16
 c0:w.cell? ⟨0,x0,none⟩=some (.int .u8 X)
 a0:w.cell? ⟨1,i*2,none⟩=some (.int .u8 lo)
 a1:w.cell? ⟨1,i*2+1,none⟩=some (.int .u8 hi)
 lh:lo<256/\hi<256
theorem Fst.all {w:World} {x0 X i lo hi:Nat} (F:Fst w x0 X i lo hi):(i:Int)<16/\(0:Int)<=i/\x0<256/\X<240/\(X:Int)/16=i/\w.cell? ⟨0,x0,none⟩=some (.int .u8 X)/\w.cell? ⟨1,i*2,none⟩=some (.int .u8 lo)/\w.cell? ⟨1,i*2+1,none⟩=some (.int .u8 hi)/\1<w.heap.size/\lo<256/\hi<256:=
 ⟨by have:=F.i16;omega,by omega,F.l0,F.hX,F.id,F.c0,F.a0,F.a1,World.block_lt_of_cell? _ _ F.a0,F.lh⟩
theorem zqZ (b off cap x0:Nat) (w:World) (l0:x0<256) (hc0:w.cell? ⟨0,x0,none⟩=some (.int .u8 241)) (h0:w.cell? ⟨b,off,none⟩=some (.int .u8 x0)):
 Calls Tryz.prog 229 #[.slice (some ⟨b,off,none⟩) 1 cap] w λe w'=>e=.returned (.bool true)/\Below w.heap.size w w':=by
 go_in;go_wp2;go_ret;exact⟨rfl,Below.refl _ _⟩
theorem zdP (b off cap x0 X i lo hi sz n:Nat) (w:World) (F:Fst w x0 X i lo hi) (hsz:(X:Int)%8=sz) (hn:sz<=n) (hn0:0<n) (hn4:n<=4) (h0:w.cell? ⟨b,off,none⟩=some (.int .u8 x0)):
 Calls Tryz.prog 229 #[.slice (some ⟨b,off,none⟩) n cap] w λe w'=>e=.returned (.bool true)/\Below w.heap.size w w':=by
 obtain⟨i16,i0,l0,hX,hid,hc0,ha0,ha1,h1s,hlo,hhi⟩:=F.all;have hbs:b<w.heap.size:=World.block_lt_of_cell? _ _ h0;clear F;have n1:(sz:Int)<=n:=by omega
 have n0:(0:Int)<n:=by omega
 have n2:¬n=0:=by omega
 go_in;go_wp2;go_ret;exact⟨rfl,Below.refl _ _⟩
theorem zlq (b off cap x0 x1 x2 X i lo hi sz n:Nat) (rb:Bool) (w:World) (F:Fst w x0 X i lo hi) (hsz:(X:Int)%8=sz) (h0:w.cell? ⟨b,off,none⟩=some (.int .u8 x0)) (h1:2<=n->w.cell? ⟨b,off+1,none⟩=some (.int .u8 x1)) (h2:3<=n->w.cell? ⟨b,off+2,none⟩=some (.int .u8 x2))
 (hd:n=1/\¬(sz:Int)<=1/\rb=false\/n=2/\¬(sz:Int)<=2/\(x1<lo/\rb=true\/¬x1<lo/\hi<x1/\rb=true\/¬x1<lo/\¬hi<x1/\rb=false)\/n=3/\¬(sz:Int)<=3/\¬x1<lo/\¬hi<x1/\(x2<128/\rb=true\/¬x2<128/\191<x2/\rb=true\/¬x2<128/\¬191<x2/\rb=false)):
 Calls Tryz.prog 229 #[.slice (some ⟨b,off,none⟩) n cap] w λe w'=>e=.returned (.bool rb)/\Below w.heap.size w w':=by
 obtain⟨i16,i0,l0,hX,hid,hc0,ha0,ha1,h1s,hlo,hhi⟩:=F.all;have hbs:b<w.heap.size:=World.block_lt_of_cell? _ _ h0;clear F;have H1:=zH h1;have H2:=zH h2;clear h1 h2;rcases hd with⟨rfl,n1,rfl⟩|⟨rfl,n1,⟨d1,rfl⟩|⟨d1,d2,rfl⟩|⟨d1,d2,rfl⟩⟩|⟨rfl,n1,d1,d2,⟨d3,rfl⟩|⟨d3,d4,rfl⟩|⟨d3,d4,rfl⟩⟩;all_goals
  first|have i1:(x1:Int)<lo:=by omega|have i1:¬(x1:Int)<lo:=by omega|skip
  first|have i2:(hi:Int)<x1:=by omega|have i2:¬(hi:Int)<x1:=by omega|skip
  first|have i3:(x2:Int)<128:=by omega|have i3:¬(x2:Int)<128:=by omega|skip
  first|have i4:(191:Int)<x2:=by omega|have i4:¬(191:Int)<x2:=by omega|skip
  go_in;go_wp2_with fail;generalize hwa:w.alloc _=wa;have hbl:Below w.heap.size w wa:=by rw[←hwa];exact(Below.refl _ _).alloc (Nat.le_refl _) _
  have q0:wa.cell? ⟨w.heap.size,0,none⟩=some (.int .u8 lo):=by rw[←hwa,za (zf w _)];rfl
  have q1:wa.cell? ⟨w.heap.size,1,none⟩=some (.int .u8 hi):=by rw[←hwa,za (zf w _)];rfl
  have p0:wa.cell? ⟨b,off,none⟩=some (.int .u8 x0):=by rw[hbl.cells hbs];exact h0
  try have p1:wa.cell? ⟨b,off+1,none⟩=some (.int .u8 x1):=by rw[hbl.cells hbs];exact H1.out (by omega)
  try have p2:wa.cell? ⟨b,off+2,none⟩=some (.int .u8 x2):=by rw[hbl.cells hbs];exact H2.out (by omega)
  have HB:=zH hbl;clear hwa hbl h0 ha0 ha1 hc0;go_quiet (fail);have HB2:Hid (Below w.heap.size w (wa.drewN nq)):=HB.out.trans ((Zc wa nq).mono HB.out.size);replace q0:(wa.drewN nq).cell? ⟨w.heap.size,0,none⟩=some (.int .u8 lo):=q0;replace q1:(wa.drewN nq).cell? ⟨w.heap.size,1,none⟩=some (.int .u8 hi):=q1;replace p0:(wa.drewN nq).cell? ⟨b,off,none⟩=some (.int .u8 x0):=p0;try replace p1:(wa.drewN nq).cell? ⟨b,off+1,none⟩=some (.int .u8 x1):=p1
  try replace p2:(wa.drewN nq).cell? ⟨b,off+2,none⟩=some (.int .u8 x2):=p2
  generalize wa.drewN nq=wb at *;clear HB;go_wp2_with fail;go_ret;exact⟨rfl,HB2.out⟩
theorem zck (b off n cap x0:Nat) (w:World) (R K:Int) (Q:World->Prop) (hn:0<n) (h0:w.cell? ⟨b,off,none⟩=some (.int .u8 x0)) (a0:128<=x0)
 (cS:Calls Tryz.prog 243 #[.slice (some ⟨b,off,none⟩) n cap] w λe w'=>e=.returned (.tuple #[.int .i32 R,.int .i64 K])/\Q w'):
 Calls Tryz.prog 230 #[.slice (some ⟨b,off,none⟩) n cap] w λe w'=>e=.returned (.tuple #[.int .i32 R,.int .i64 K])/\Q w':=by
 have hn':(0:Int)<n:=by omega
 have ha:¬(x0:Int)<128:=by omega
 have HS:=zH cS;clear cS;go_in;go_wp2;go_loop [8] (λi=>i=.int .i64 0) (λ_=>0)
 case atStart=>rfl
 case round=>
  subst hrel;go_wp2_with (go_at_call 243;refine HS.out.mono ?_;rintro e w' ⟨rfl,hb⟩);go_ret2;exact⟨rfl,hb⟩
theorem zq0 (b off cap x0:Nat) (w:World) (l0:x0<256) (hc0:w.cell? ⟨0,x0,none⟩=some (.int .u8 241)) (h0:w.cell? ⟨b,off,none⟩=some (.int .u8 x0)):
 Calls Tryz.prog 243 #[.slice (some ⟨b,off,none⟩) 1 cap] w λe w'=>e=.returned (.tuple #[.int .i32 65533,.int .i64 1])/\Below w.heap.size w w':=by
 go_in;go_wp2;rw[Utf8W.mask241,Utf8W.drop_byte ⟨x0,l0⟩];go_ret2;exact⟨rfl,Below.refl _ _⟩
theorem zh8 (b off cap x0 X i lo hi sz n:Nat) (w:World) (F:Fst w x0 X i lo hi) (hsz:(X:Int)%8=sz) (h0:w.cell? ⟨b,off,none⟩=some (.int .u8 x0)) (hn:n<sz) (hn0:0<n):
 Calls Tryz.prog 243 #[.slice (some ⟨b,off,none⟩) n cap] w λe w'=>e=.returned (.tuple #[.int .i32 65533,.int .i64 1])/\Below w.heap.size w w':=by
 obtain⟨i16,i0,l0,hX,hid,hc0,ha0,ha1,h1s,hlo,hhi⟩:=F.all;have hbs:b<w.heap.size:=World.block_lt_of_cell? _ _ h0;clear F;have n1:(n:Int)<sz:=by omega
 have n0:(0:Int)<n:=by omega
 have n2:¬(n:Int)<1:=by omega
 have hx240:¬(240:Int)<=X:=by omega
 go_in;go_wp2;go_ret2;exact⟨rfl,(Below.refl _ _).alloc (Nat.le_refl _) _⟩
theorem zsT (b off cap x0 x1 X i lo hi sz n:Nat) (w:World) (F:Fst w x0 X i lo hi) (hsz:(X:Int)%8=sz) (h0:w.cell? ⟨b,off,none⟩=some (.int .u8 x0)) (h1:w.cell? ⟨b,off+1,none⟩=some (.int .u8 x1)) (hn:sz<=n) (hn1:1<n) (hx:x1<lo/\(x1:Int)<lo\/¬x1<lo/\hi<x1/\¬(x1:Int)<lo/\(hi:Int)<x1):
 Calls Tryz.prog 243 #[.slice (some ⟨b,off,none⟩) n cap] w λe w'=>e=.returned (.tuple #[.int .i32 65533,.int .i64 1])/\Below w.heap.size w w':=by
 obtain⟨i16,i0,l0,hX,hid,hc0,ha0,ha1,h1s,hlo,hhi⟩:=F.all;have hbs:b<w.heap.size:=World.block_lt_of_cell? _ _ h0;clear F;have n1:¬(n:Int)<sz:=by omega
 have n0:(0:Int)<n:=by omega
 have n2:¬(n:Int)<1:=by omega
 have n3:(1:Int)<n:=by omega
 have hx240:¬(240:Int)<=X:=by omega
 rcases hx with⟨e1,d1⟩|⟨e1,e2,d1,d2⟩;all_goals
  go_in;go_wp2;go_ret2;exact⟨rfl,(Below.refl _ _).alloc (Nat.le_refl _) _⟩
theorem zuG (b off cap x0 x1 X i lo hi:Nat) (w:World) (F:Fst w x0 X i lo hi) (hsz:(X:Int)%8=2) (h0:w.cell? ⟨b,off,none⟩=some (.int .u8 x0)) (h1:w.cell? ⟨b,off+1,none⟩=some (.int .u8 x1)) (hx:lo<=x1/\x1<=hi):
 Calls Tryz.prog 243 #[.slice (some ⟨b,off,none⟩) 2 cap] w λe w'=>e=.returned (.tuple #[.int .i32 ((x0:Int)%32*64+(x1:Int)%64),.int .i64 2])/\Below w.heap.size w w':=by
 obtain⟨i16,i0,l0,hX,hid,hc0,ha0,ha1,h1s,hlo,hhi⟩:=F.all;have hbs:b<w.heap.size:=World.block_lt_of_cell? _ _ h0;clear F;have d1:¬(x1:Int)<lo:=by omega
 have d2:¬(hi:Int)<x1:=by omega
 have hx240:¬(240:Int)<=X:=by omega
 go_in;go_wp2;go_ret2;exact⟨rfl,(Below.refl _ _).alloc (Nat.le_refl _) _⟩
theorem zsU (b off cap x0 x1 x2 X i lo hi:Nat) (w:World) (F:Fst w x0 X i lo hi) (hsz:(X:Int)%8=3) (h0:w.cell? ⟨b,off,none⟩=some (.int .u8 x0)) (h1:w.cell? ⟨b,off+1,none⟩=some (.int .u8 x1)) (h2:w.cell? ⟨b,off+2,none⟩=some (.int .u8 x2)) (hy:x2<128/\(x2:Int)<128\/¬x2<128/\191<x2/\¬(x2:Int)<128/\(191:Int)<x2) (hx:lo<=x1/\x1<=hi):
 Calls Tryz.prog 243 #[.slice (some ⟨b,off,none⟩) 3 cap] w λe w'=>e=.returned (.tuple #[.int .i32 65533,.int .i64 1])/\Below w.heap.size w w':=by
 obtain⟨i16,i0,l0,hX,hid,hc0,ha0,ha1,h1s,hlo,hhi⟩:=F.all;have hbs:b<w.heap.size:=World.block_lt_of_cell? _ _ h0;clear F;have d1:¬(x1:Int)<lo:=by omega
 have d2:¬(hi:Int)<x1:=by omega
 have hx240:¬(240:Int)<=X:=by omega
 rcases hy with⟨e3,d3⟩|⟨e3,e4,d3,d4⟩;all_goals
  go_in;go_wp2;go_ret2;exact⟨rfl,(Below.refl _ _).alloc (Nat.le_refl _) _⟩
theorem zuH (b off cap x0 x1 x2 X i lo hi:Nat) (w:World) (F:Fst w x0 X i lo hi) (hsz:(X:Int)%8=3) (h0:w.cell? ⟨b,off,none⟩=some (.int .u8 x0)) (h1:w.cell? ⟨b,off+1,none⟩=some (.int .u8 x1)) (h2:w.cell? ⟨b,off+2,none⟩=some (.int .u8 x2)) (hy:128<=x2/\x2<=191) (hx:lo<=x1/\x1<=hi):
 Calls Tryz.prog 243 #[.slice (some ⟨b,off,none⟩) 3 cap] w λe w'=>e=.returned (.tuple #[.int .i32 ((x0:Int)%16*4096+(x1:Int)%64*64+(x2:Int)%64),.int .i64 3])/\Below w.heap.size w w':=by
 obtain⟨i16,i0,l0,hX,hid,hc0,ha0,ha1,h1s,hlo,hhi⟩:=F.all;have hbs:b<w.heap.size:=World.block_lt_of_cell? _ _ h0;clear F;have d1:¬(x1:Int)<lo:=by omega
 have d2:¬(hi:Int)<x1:=by omega
 have d3:¬(x2:Int)<128:=by omega
 have d4:¬(191:Int)<x2:=by omega
 have hx240:¬(240:Int)<=X:=by omega
 go_in;go_wp2;go_ret2;exact⟨rfl,(Below.refl _ _).alloc (Nat.le_refl _) _⟩
theorem zsV (b off cap x0 x1 x2 x3 X i lo hi:Nat) (w:World) (F:Fst w x0 X i lo hi) (hsz:(X:Int)%8=4) (h0:w.cell? ⟨b,off,none⟩=some (.int .u8 x0)) (h1:w.cell? ⟨b,off+1,none⟩=some (.int .u8 x1)) (h2:w.cell? ⟨b,off+2,none⟩=some (.int .u8 x2)) (h3:w.cell? ⟨b,off+3,none⟩=some (.int .u8 x3)) (hy:128<=x2/\x2<=191) (hz:x3<128/\(x3:Int)<128\/¬x3<128/\191<x3/\¬(x3:Int)<128/\(191:Int)<x3) (hx:lo<=x1/\x1<=hi):
 Calls Tryz.prog 243 #[.slice (some ⟨b,off,none⟩) 4 cap] w λe w'=>e=.returned (.tuple #[.int .i32 65533,.int .i64 1])/\Below w.heap.size w w':=by
 obtain⟨i16,i0,l0,hX,hid,hc0,ha0,ha1,h1s,hlo,hhi⟩:=F.all;have hbs:b<w.heap.size:=World.block_lt_of_cell? _ _ h0;clear F;have d1:¬(x1:Int)<lo:=by omega
 have d2:¬(hi:Int)<x1:=by omega
 have d3:¬(x2:Int)<128:=by omega
 have d4:¬(191:Int)<x2:=by omega
 have hx240:¬(240:Int)<=X:=by omega
 rcases hz with⟨e5,d5⟩|⟨e5,e6,d5,d6⟩;all_goals
  go_in;go_wp2;go_ret2;exact⟨rfl,(Below.refl _ _).alloc (Nat.le_refl _) _⟩
theorem zuI (b off cap x0 x1 x2 x3 X i lo hi:Nat) (w:World) (F:Fst w x0 X i lo hi) (hsz:(X:Int)%8=4) (h0:w.cell? ⟨b,off,none⟩=some (.int .u8 x0)) (h1:w.cell? ⟨b,off+1,none⟩=some (.int .u8 x1)) (h2:w.cell? ⟨b,off+2,none⟩=some (.int .u8 x2)) (h3:w.cell? ⟨b,off+3,none⟩=some (.int .u8 x3)) (hy:128<=x2/\x2<=191) (hz:128<=x3/\x3<=191) (hx:lo<=x1/\x1<=hi):
 Calls Tryz.prog 243 #[.slice (some ⟨b,off,none⟩) 4 cap] w λe w'=>e=.returned (.tuple #[.int .i32 ((x0:Int)%8*262144+(x1:Int)%64*4096+(x2:Int)%64*64+(x3:Int)%64),.int .i64 4])/\Below w.heap.size w w':=by
 obtain⟨i16,i0,l0,hX,hid,hc0,ha0,ha1,h1s,hlo,hhi⟩:=F.all;have hbs:b<w.heap.size:=World.block_lt_of_cell? _ _ h0;clear F;have d1:¬(x1:Int)<lo:=by omega
 have d2:¬(hi:Int)<x1:=by omega
 have d3:¬(x2:Int)<128:=by omega
 have d4:¬(191:Int)<x2:=by omega
 have d5:¬(x3:Int)<128:=by omega
 have d6:¬(191:Int)<x3:=by omega
 have hx240:¬(240:Int)<=X:=by omega
 go_in;go_wp2;go_ret2;exact⟨rfl,(Below.refl _ _).alloc (Nat.le_refl _) _⟩
theorem zj2 (bs bg g N:Nat) (s:Rs) (t:Pt) (w:World) (h:zh w bs bg g N s t):
 Calls Tryz.prog 128 #[.pointer (some ⟨bs,12,none⟩)] w λe w'=>e=.returned (.bool (decide (t.bn=0)))/\w'=w:=by
 have c:=h.f16;clear h;by_cases h0:t.bn=0
 ·rw[h0] at c;rw[show decide (t.bn=0)=true by simp[h0]];go_in;go_wp2;go_ret;exact⟨rfl,rfl⟩
 ·have h1:(t.bn==0)=false:=by simp[h0]
  rw[show decide (t.bn=0)=false by simp[h0]];go_in;go_wp2;go_ret;exact⟨rfl,rfl⟩
def zb5 (t:Pt) (n:Nat) (c:Int):Pt:={t with by4:=zhs t.by4 n c,bn:=(n:Int)+1}
theorem zh9 (bs bg g N:Nat) (s:Rs) (t:Pt) (n:Nat) (c:Int) (w:World) (h:zh w bs bg g N s t) (hn:t.bn=n) (hn4:n<4)
 (hF:∀w',zh w' bs bg g N s (zb5 t n c)->zd (λi=>i=bs) w w'->Calls Tryz.prog 229 #[.slice (some ⟨bs,12,none⟩) (n+1) 4] w' λe w''=>e=.returned (.bool false)/\Below w'.heap.size w' w''):
 Calls Tryz.prog 212 #[.pointer (some ⟨bs,12,none⟩),.int .u8 c] w (zV bs bg g N w s (zb5 t n c) (.tuple #[.int .i32 0,.int .i64 1])):=by
 have HP:=zH h;have HF:=zH hF;have f16:=h.f16;rw[hn] at f16;have fn:=h.byte n hn4;have fz:=h.free;have n0:(0:Int)<=n:=by omega
 have n4:(n:Int)<4:=by omega
 have hoff:¬16=12+n:=by omega
 have h4:¬4=n:=by omega
 have h4':¬n=4:=by omega
 clear h hF;go_in;go_wp2_with fail;have fs:(w.cell? ⟨bs,12+n,none⟩).isSome=true:=by rw[fn];rfl
 go_region_held3 (λw'=>w'.cell? ⟨bs,16,none⟩=some (.int .i64 (n:Int))/\(w'.cell? ⟨bs,12+n,none⟩).isSome=true/\(∀o,w'.frozen? ⟨bs,o,none⟩=false)) (simp[*,ZZ,zF]) (fail);have HP1:=zH<|(HP.out.setByte n hn4 c).drew
 have K1:zd (λi=>i=bs) w (w.setCell ⟨bs,12+n,none⟩ (.int .u8 c)).drew:=(zd.setCell (F:=λi=>i=bs) (zd.refl _ w) ⟨bs,12+n,none⟩ _ (λ_=>rfl)).drew;generalize (w.setCell ⟨bs,12+n,none⟩ (.int .u8 c)).drew=wa at *;clear HP f16 fn fz fs;have f16:wa.cell? ⟨bs,16,none⟩=some (.int .i64 (n:Int)):=by rw[←hn];exact HP1.out.f16
 have fz:=HP1.out.free;go_wp2_with fail;have HP2:Hid (zh (wa.setCell ⟨bs,16,none⟩ (.int .i64 ((n:Int)+1))) bs bg g N s (zb5 t n c)):=HP1.out.setBn _;have K2:zd (λi=>i=bs) w (wa.setCell ⟨bs,16,none⟩ (.int .i64 ((n:Int)+1))):=K1.setCell ⟨bs,16,none⟩ _ (λ_=>rfl);generalize wa.setCell ⟨bs,16,none⟩ (.int .i64 ((n:Int)+1))=wb at *;clear HP1 K1 f16 fz;obtain⟨m,hm⟩:∃m:Nat,n+1=m:=⟨_,rfl⟩;have f16:wb.cell? ⟨bs,16,none⟩=some (.int .i64 (m:Int)):=by rw[←hm];exact HP2.out.f16
 have m1:(m:Int)<=4:=by omega
 have m0:(0:Int)<=(m:Int):=by omega
 rw[hm] at HF;clear hm;go_quiet (fail);have HP3:=zH<|HP2.out.drewN nq
 have K3:=K2.drewN nq;generalize wb.drewN nq=wc at *;clear HP2 K2 f16;go_wp2_with fail;go_at_call 229;refine(HF.out _ HP3.out K3).mono ?_;rintro e wd ⟨rfl,B4⟩;have HP4:=zH<|HP3.out.below B4
 have K4:=K3.thenBelow B4;go_wp2_with fail;refine bodyPost_ret (v:=.tuple #[.int .i32 0,.int .i64 1]) (by simp[results,Tryz.results212,go_sem]) rfl ⟨rfl,HP4.out,K4.mono (λ_ h=>Or.inl h)⟩
theorem zhc (bs bg g N:Nat) (s:Rs) (t:Pt) (n:Nat) (c:Int) (w:World) (h:zh w bs bg g N s t) (hn:t.bn=n) (hn4:n<4)
 (hF:∀w',zh w' bs bg g N s (zb5 t n c)->zd (λi=>i=bs) w w'->Calls Tryz.prog 229 #[.slice (some ⟨bs,12,none⟩) (n+1) 4] w' λe w''=>e=.returned (.bool true)/\Below w'.heap.size w' w'')
 (hD:∀w',zh w' bs bg g N s (zb5 t n c)->zd (λi=>i=bs) w w'->Calls Tryz.prog 230 #[.slice (some ⟨bs,12,none⟩) (n+1) 4] w' λe w''=>e=.returned (.tuple #[.int .i32 65533,.int .i64 1])/\Below w'.heap.size w' w''):
 Calls Tryz.prog 212 #[.pointer (some ⟨bs,12,none⟩),.int .u8 c] w (zV bs bg g N w s {zb5 t n c with bn:=0} (.tuple #[.int .i32 0,.int .i64 0])):=by
 have HP:=zH h;have HF:=zH hF;have HDr:=zH hD;have f16:=h.f16;rw[hn] at f16;have fn:=h.byte n hn4;have fz:=h.free;have n0:(0:Int)<=n:=by omega
 have n4:(n:Int)<4:=by omega
 have hoff:¬16=12+n:=by omega
 have h4:¬4=n:=by omega
 have h4':¬n=4:=by omega
 clear h hF hD;go_in;go_wp2_with fail;have fs:(w.cell? ⟨bs,12+n,none⟩).isSome=true:=by rw[fn];rfl
 go_region_held3 (λw'=>w'.cell? ⟨bs,16,none⟩=some (.int .i64 (n:Int))/\(w'.cell? ⟨bs,12+n,none⟩).isSome=true/\(∀o,w'.frozen? ⟨bs,o,none⟩=false)) (simp[*,ZZ,zF]) (fail);have HP1:=zH<|(HP.out.setByte n hn4 c).drew
 have K1:zd (λi=>i=bs) w (w.setCell ⟨bs,12+n,none⟩ (.int .u8 c)).drew:=(zd.setCell (F:=λi=>i=bs) (zd.refl _ w) ⟨bs,12+n,none⟩ _ (λ_=>rfl)).drew;generalize (w.setCell ⟨bs,12+n,none⟩ (.int .u8 c)).drew=wa at *;clear HP f16 fn fz fs;have f16:wa.cell? ⟨bs,16,none⟩=some (.int .i64 (n:Int)):=by rw[←hn];exact HP1.out.f16
 have fz:=HP1.out.free;go_wp2_with fail;have HP2:Hid (zh (wa.setCell ⟨bs,16,none⟩ (.int .i64 ((n:Int)+1))) bs bg g N s (zb5 t n c)):=HP1.out.setBn _;have K2:zd (λi=>i=bs) w (wa.setCell ⟨bs,16,none⟩ (.int .i64 ((n:Int)+1))):=K1.setCell ⟨bs,16,none⟩ _ (λ_=>rfl);generalize wa.setCell ⟨bs,16,none⟩ (.int .i64 ((n:Int)+1))=wb at *;clear HP1 K1 f16 fz;obtain⟨m,hm⟩:∃m:Nat,n+1=m:=⟨_,rfl⟩;have f16:wb.cell? ⟨bs,16,none⟩=some (.int .i64 (m:Int)):=by rw[←hm];exact HP2.out.f16
 have m1:(m:Int)<=4:=by omega
 have m0:(0:Int)<=(m:Int):=by omega
 rw[hm] at HF HDr;clear hm;go_quiet (fail);have HP3:=zH<|HP2.out.drewN nq
 have K3:=K2.drewN nq;generalize wb.drewN nq=wc at *;clear HP2 K2 f16;go_wp2_with fail;go_at_call 229;refine(HF.out _ HP3.out K3).mono ?_;rintro e wd ⟨rfl,B4⟩;have HP4:=zH<|HP3.out.below B4
 have K4:=K3.thenBelow B4;go_wp2_with fail;go_at_call 230;refine(HDr.out _ HP4.out K4).mono ?_;rintro e we ⟨rfl,B5⟩;have HP5:=zH<|HP4.out.below B5
 have K5:=K4.thenBelow B5;have f16:=HP5.out.f16;have fz:=HP5.out.free;clear HP4 HP3 K3 K4 B4 B5;go_wp2_with fail;refine bodyPost_ret (v:=.tuple #[.int .i32 0,.int .i64 0]) (by simp[results,Tryz.results212,go_sem]) rfl ⟨rfl,HP5.out.setBn 0,(K5.setCell ⟨bs,16,none⟩ _ (λ_=>rfl)).mono (λ_ h=>Or.inl h)⟩
theorem zia (bs bg g N:Nat) (s:Rs) (t:Pt) (n:Nat) (c R K:Int) (w:World) (h:zh w bs bg g N s t) (hn:t.bn=n) (hn4:n<4)
 (hF:∀w',zh w' bs bg g N s (zb5 t n c)->zd (λi=>i=bs) w w'->Calls Tryz.prog 229 #[.slice (some ⟨bs,12,none⟩) (n+1) 4] w' λe w''=>e=.returned (.bool true)/\Below w'.heap.size w' w'')
 (hD:∀w',zh w' bs bg g N s (zb5 t n c)->zd (λi=>i=bs) w w'->Calls Tryz.prog 230 #[.slice (some ⟨bs,12,none⟩) (n+1) 4] w' λe w''=>e=.returned (.tuple #[.int .i32 R,.int .i64 K])/\Below w'.heap.size w' w'') (hK:1<K):
 Calls Tryz.prog 212 #[.pointer (some ⟨bs,12,none⟩),.int .u8 c] w (zV bs bg g N w s {zb5 t n c with bn:=0} (.tuple #[.int .i32 R,.int .i64 2])):=by
 have HP:=zH h;have HF:=zH hF;have HDr:=zH hD;have f16:=h.f16;rw[hn] at f16;have fn:=h.byte n hn4;have fz:=h.free;have n0:(0:Int)<=n:=by omega
 have n4:(n:Int)<4:=by omega
 have hoff:¬16=12+n:=by omega
 have h4:¬4=n:=by omega
 have h4':¬n=4:=by omega
 clear h hF hD;go_in;go_wp2_with fail;have fs:(w.cell? ⟨bs,12+n,none⟩).isSome=true:=by rw[fn];rfl
 go_region_held3 (λw'=>w'.cell? ⟨bs,16,none⟩=some (.int .i64 (n:Int))/\(w'.cell? ⟨bs,12+n,none⟩).isSome=true/\(∀o,w'.frozen? ⟨bs,o,none⟩=false)) (simp[*,ZZ,zF]) (fail);have HP1:=zH<|(HP.out.setByte n hn4 c).drew
 have K1:zd (λi=>i=bs) w (w.setCell ⟨bs,12+n,none⟩ (.int .u8 c)).drew:=(zd.setCell (F:=λi=>i=bs) (zd.refl _ w) ⟨bs,12+n,none⟩ _ (λ_=>rfl)).drew;generalize (w.setCell ⟨bs,12+n,none⟩ (.int .u8 c)).drew=wa at *;clear HP f16 fn fz fs;have f16:wa.cell? ⟨bs,16,none⟩=some (.int .i64 (n:Int)):=by rw[←hn];exact HP1.out.f16
 have fz:=HP1.out.free;go_wp2_with fail;have HP2:Hid (zh (wa.setCell ⟨bs,16,none⟩ (.int .i64 ((n:Int)+1))) bs bg g N s (zb5 t n c)):=HP1.out.setBn _;have K2:zd (λi=>i=bs) w (wa.setCell ⟨bs,16,none⟩ (.int .i64 ((n:Int)+1))):=K1.setCell ⟨bs,16,none⟩ _ (λ_=>rfl);generalize wa.setCell ⟨bs,16,none⟩ (.int .i64 ((n:Int)+1))=wb at *;clear HP1 K1 f16 fz;obtain⟨m,hm⟩:∃m:Nat,n+1=m:=⟨_,rfl⟩;have f16:wb.cell? ⟨bs,16,none⟩=some (.int .i64 (m:Int)):=by rw[←hm];exact HP2.out.f16
 have m1:(m:Int)<=4:=by omega
 have m0:(0:Int)<=(m:Int):=by omega
 rw[hm] at HF HDr;clear hm;go_quiet (fail);have HP3:=zH<|HP2.out.drewN nq
 have K3:=K2.drewN nq;generalize wb.drewN nq=wc at *;clear HP2 K2 f16;go_wp2_with fail;go_at_call 229;refine(HF.out _ HP3.out K3).mono ?_;rintro e wd ⟨rfl,B4⟩;have HP4:=zH<|HP3.out.below B4
 have K4:=K3.thenBelow B4;have hK':¬K<=1:=by omega
 go_wp2_with fail;go_at_call 230;refine(HDr.out _ HP4.out K4).mono ?_;rintro e we ⟨rfl,B5⟩;have HP5:=zH<|HP4.out.below B5
 have K5:=K4.thenBelow B5;have f16:=HP5.out.f16;have fz:=HP5.out.free;clear HP4 HP3 K3 K4 B4 B5;by_cases hR:R=65533
 ·subst hR;go_wp2_with fail;refine bodyPost_ret (v:=.tuple #[.int .i32 65533,.int .i64 2]) (by simp[results,Tryz.results212,go_sem]) rfl ⟨rfl,HP5.out.setBn 0,(K5.setCell ⟨bs,16,none⟩ _ (λ_=>rfl)).mono (λ_ h=>Or.inl h)⟩
 ·have hR':(R==65533)=false:=by simp[hR]
  go_wp2_with fail;refine bodyPost_ret (v:=.tuple #[.int .i32 R,.int .i64 2]) (by simp[results,Tryz.results212,go_sem]) rfl ⟨rfl,HP5.out.setBn 0,(K5.setCell ⟨bs,16,none⟩ _ (λ_=>rfl)).mono (λ_ h=>Or.inl h)⟩
end
section
open Go.RowKit Go.Lib
def ZY (w:World):Prop:=Utf8Tabs 0 1 w
theorem ZY.keep {F:Nat->Prop} {w w':World} (h:ZY w) (k:zd F w w') (h0:¬F 0) (h1:¬F 1):ZY w':=by
 have b0:=k.block 0 (World.block_lt_of_cell? _ _ (h.1 0 (by omega))) h0;have b1:=k.block 1 (World.block_lt_of_cell? _ _ (h.2 0 (by omega)).1) h1;refine⟨λc hc=>?_,λi hi=>⟨?_,?_⟩⟩
 ·rw[Zj b0];exact h.1 c hc
 ·rw[Zj b1];exact(h.2 i hi).1
 ·rw[Zj b1];exact(h.2 i hi).2
theorem ZY.below {w w':World} (h:ZY w) (k:Below w.heap.size w w'):ZY w':=h.keep (zd.below (λ_=>False) k) (λh=>h) (λh=>h)
theorem ZY.fst {w:World} (h:ZY w) {x:Nat} (l:x<256) (hX:firstT x<240):Fst w x (firstT x) (firstT x/16) (accLo (firstT x/16)) (accHi (firstT x/16)):=by
 have hi:firstT x/16<16:=by omega
 refine⟨l,hX,by omega,hi,h.1 x l,?_,?_,?_⟩
 ·rw[Nat.mul_comm];exact(h.2 _ hi).1
 ·rw[Nat.mul_comm];exact(h.2 _ hi).2
 ·unfold accLo accHi;constructor
  ·(repeat' split)<;>omega
  ·(repeat' split)<;>omega
theorem zoT:∀a:Fin 256,194<=a.val->a.val<=244->firstT a.val<240/\((firstT a.val:Nat):Int)%8=zQ a.val/\((accLo (firstT a.val/16):Nat):Int)=zbb a.val/\((accHi (firstT a.val/16):Nat):Int)=Z6 a.val:=by decide
theorem zja {a:Nat} (h:128<=a) (h2:a<194\/244<a):firstT a=241:=by
 unfold firstT
 (repeat' split)<;>omega
theorem ZY.cls {w:World} (h:ZY w) (a:UInt8) (h1:194<=a.toNat) (h2:a.toNat<=244):∃X i lo hi sz:Nat,Fst w a.toNat X i lo hi/\(X:Int)%8=sz/\(sz:Int)=zQ a.toNat/\(lo:Int)=zbb a.toNat/\(hi:Int)=Z6 a.toNat:=by
 obtain⟨q1,q2,q3,q4⟩:=zoT ⟨a.toNat,a.toNat_lt⟩ h1 h2;have e:zQ a.toNat=((zQ a.toNat).toNat:Int):=by
  rcases Zk a.toNat with q|q|q|q<;>omega
 exact⟨_,_,_,_,(zQ a.toNat).toNat,h.fst a.toNat_lt q1,by rw[←e];exact q2,e.symm,q3,q4⟩
section
variable {w:World} {bs bg g N:Nat} {s:Rs} {t:Pt}
theorem zv2 (c:UInt8) (h:zh w bs bg g N s t) (T:ZY w) (n0:¬bs=0) (n1:¬bs=1) (hn:t.bn=0) (c1:194<=c.toNat) (c2:c.toNat<=244):
 Calls Tryz.prog 212 #[.pointer (some ⟨bs,12,none⟩),.int .u8 c.toNat] w (zV bs bg g N w s (zb5 t 0 c.toNat) (.tuple #[.int .i32 0,.int .i64 1])):=by
 refine zh9 bs bg g N s t 0 c.toNat w h (by simpa using hn) (by omega) (λw' P K=>?_);obtain⟨X,i,lo,hi,sz,F,e1,e2,_,_⟩:=(T.keep K (λe=>n0 e.symm) (λe=>n1 e.symm)).cls c c1 c2;have q:=Zk c.toNat;exact zlq bs 12 4 c.toNat 0 0 X i lo hi sz 1 false w' F e1 (P.byte 0 (by omega)) (by simp) (by simp) (by simp;omega)
theorem zq1 (c:UInt8) (h:zh w bs bg g N s t) (T:ZY w) (n0:¬bs=0) (n1:¬bs=1) (hn:t.bn=0) (c0:128<=c.toNat) (c1:c.toNat<194\/244<c.toNat):
 Calls Tryz.prog 212 #[.pointer (some ⟨bs,12,none⟩),.int .u8 c.toNat] w (zV bs bg g N w s {zb5 t 0 c.toNat with bn:=0} (.tuple #[.int .i32 0,.int .i64 0])):=by
 refine zhc bs bg g N s t 0 c.toNat w h (by simpa using hn) (by omega) (λw' P K=>?_) (λw' P K=>?_)
 ·have hc:=(T.keep K (λe=>n0 e.symm) (λe=>n1 e.symm)).1 c.toNat c.toNat_lt;rw[zja c0 c1] at hc;exact zqZ bs 12 4 c.toNat w' c.toNat_lt hc (P.byte 0 (by omega))
 ·have hc:=(T.keep K (λe=>n0 e.symm) (λe=>n1 e.symm)).1 c.toNat c.toNat_lt;rw[zja c0 c1] at hc;exact zck bs 12 1 4 c.toNat w' _ _ _ (by omega) (P.byte 0 (by omega)) c0 (zq0 bs 12 4 c.toNat w' c.toNat_lt hc (P.byte 0 (by omega)))
end
section
variable {w:World} {bs bg g N:Nat} {s:Rs} {t:Pt}
theorem zO {t:Pt} {n i:Nat} {c:Int} (h:zh w bs bg g N s (zb5 t n c)) (hi:i<4) {v:Int} (hv:zhs t.by4 n c i=v):w.cell? ⟨bs,12+i,none⟩=some (.int .u8 v):=by
 rw[←hv];exact h.byte i hi
theorem zaS (f:Nat->Int) (n:Nat) (c:Int):zhs f n c n=c:=if_pos rfl
theorem ZB (f:Nat->Int) {n i:Nat} (c:Int) (h:i≠n):zhs f n c i=f i:=if_neg h
theorem zq2 (a c:UInt8) (h:zh w bs bg g N s t) (T:ZY w) (n0:¬bs=0) (n1:¬bs=1) (hn:t.bn=1) (b0:t.by4 0=a.toNat) (a1:194<=a.toNat) (a2:a.toNat<=244) (hg:zq [a] c.toNat=false):
 Calls Tryz.prog 212 #[.pointer (some ⟨bs,12,none⟩),.int .u8 c.toNat] w (zV bs bg g N w s {zb5 t 1 c.toNat with bn:=0} (.tuple #[.int .i32 0,.int .i64 0])):=by
 have q:=Zk a.toNat;have hg':¬(zbb a.toNat<=c.toNat/\(c.toNat:Int)<=Z6 a.toNat):=by
  intro x;simp[zq,x.1,x.2] at hg
 refine zhc bs bg g N s t 1 c.toNat w h (by simpa using hn) (by omega) (λw' P K=>?_) (λw' P K=>?_)
 ·obtain⟨X,i,lo,hi,sz,F,e1,e2,e3,e4⟩:=(T.keep K (λe=>n0 e.symm) (λe=>n1 e.symm)).cls a a1 a2;have p0:=zO P (i:=0) (by omega) ((ZB _ _ (by omega)).trans b0);have p1:=zO P (i:=1) (by omega) (zaS _ _ _);by_cases hs:sz<=2
  ·exact zdP bs 12 4 a.toNat X i lo hi sz 2 w' F e1 hs (by omega) (by omega) p0
  ·exact zlq bs 12 4 a.toNat c.toNat 0 X i lo hi sz 2 true w' F e1 p0 (λ_=>p1) (by simp) (by simp;omega)
 ·obtain⟨X,i,lo,hi,sz,F,e1,e2,e3,e4⟩:=(T.keep K (λe=>n0 e.symm) (λe=>n1 e.symm)).cls a a1 a2;have p0:=zO P (i:=0) (by omega) ((ZB _ _ (by omega)).trans b0);have p1:=zO P (i:=1) (by omega) (zaS _ _ _);refine zck bs 12 2 4 a.toNat w' _ _ _ (by omega) p0 (by omega) ?_;by_cases hs:sz<=2
  ·exact zsT bs 12 4 a.toNat c.toNat X i lo hi sz 2 w' F e1 p0 p1 hs (by omega) (by omega)
  ·exact zh8 bs 12 4 a.toNat X i lo hi sz 2 w' F e1 p0 (by omega) (by omega)
theorem zoU (a c:UInt8) (h:zh w bs bg g N s t) (T:ZY w) (n0:¬bs=0) (n1:¬bs=1) (hn:t.bn=1) (b0:t.by4 0=a.toNat) (a1:194<=a.toNat) (a2:a.toNat<=244) (hg:zq [a] c.toNat=true) (hl:¬zQ a.toNat=2):
 Calls Tryz.prog 212 #[.pointer (some ⟨bs,12,none⟩),.int .u8 c.toNat] w (zV bs bg g N w s (zb5 t 1 c.toNat) (.tuple #[.int .i32 0,.int .i64 1])):=by
 have q:=Zk a.toNat;have hg':zbb a.toNat<=c.toNat/\(c.toNat:Int)<=Z6 a.toNat:=by
  simpa[zq] using hg
 refine zh9 bs bg g N s t 1 c.toNat w h (by simpa using hn) (by omega) (λw' P K=>?_);obtain⟨X,i,lo,hi,sz,F,e1,e2,e3,e4⟩:=(T.keep K (λe=>n0 e.symm) (λe=>n1 e.symm)).cls a a1 a2;have p0:=zO P (i:=0) (by omega) ((ZB _ _ (by omega)).trans b0);have p1:=zO P (i:=1) (by omega) (zaS _ _ _);exact zlq bs 12 4 a.toNat c.toNat 0 X i lo hi sz 2 false w' F e1 p0 (λ_=>p1) (by simp) (by simp;omega)
theorem zoV (a c:UInt8) (h:zh w bs bg g N s t) (T:ZY w) (n0:¬bs=0) (n1:¬bs=1) (hn:t.bn=1) (b0:t.by4 0=a.toNat) (a1:194<=a.toNat) (a2:a.toNat<=244) (hg:zq [a] c.toNat=true) (hl:zQ a.toNat=2):
 Calls Tryz.prog 212 #[.pointer (some ⟨bs,12,none⟩),.int .u8 c.toNat] w (zV bs bg g N w s {zb5 t 1 c.toNat with bn:=0} (.tuple #[.int .i32 (Zn [a,c]),.int .i64 2])):=by
 have q:=Zk a.toNat;have hg':zbb a.toNat<=c.toNat/\(c.toNat:Int)<=Z6 a.toNat:=by
  simpa[zq] using hg
 have g1:=zg7 a.toNat;have g2:=zfC a.toNat;refine zia bs bg g N s t 1 c.toNat _ 2 w h (by simpa using hn) (by omega) (λw' P K=>?_) (λw' P K=>?_) (by omega)
 ·obtain⟨X,i,lo,hi,sz,F,e1,e2,e3,e4⟩:=(T.keep K (λe=>n0 e.symm) (λe=>n1 e.symm)).cls a a1 a2;have p0:=zO P (i:=0) (by omega) ((ZB _ _ (by omega)).trans b0);have p1:=zO P (i:=1) (by omega) (zaS _ _ _);exact zdP bs 12 4 a.toNat X i lo hi sz 2 w' F e1 (by omega) (by omega) (by omega) p0
 ·obtain⟨X,i,lo,hi,sz,F,e1,e2,e3,e4⟩:=(T.keep K (λe=>n0 e.symm) (λe=>n1 e.symm)).cls a a1 a2;have p0:=zO P (i:=0) (by omega) ((ZB _ _ (by omega)).trans b0);have p1:=zO P (i:=1) (by omega) (zaS _ _ _);have hv:Zn [a,c]=(a.toNat:Int)%32*64+(c.toNat:Int)%64:=by show 64*((a.toNat:Int)-192)+c.toNat-128=_;omega
  rw[hv];exact zck bs 12 2 4 a.toNat w' _ _ _ (by omega) p0 (by omega) (zuG bs 12 4 a.toNat c.toNat X i lo hi w' F (by omega) p0 p1 (by omega))
theorem zq3 (a b c:UInt8) (h:zh w bs bg g N s t) (T:ZY w) (n0:¬bs=0) (n1:¬bs=1) (hn:t.bn=2) (b0:t.by4 0=a.toNat) (b1:t.by4 1=b.toNat) (a1:224<=a.toNat) (a2:a.toNat<=244) (hb1:zbb a.toNat<=b.toNat) (hb2:(b.toNat:Int)<=Z6 a.toNat) (hg:c.toNat<128\/191<c.toNat):
 Calls Tryz.prog 212 #[.pointer (some ⟨bs,12,none⟩),.int .u8 c.toNat] w (zV bs bg g N w s {zb5 t 2 c.toNat with bn:=0} (.tuple #[.int .i32 0,.int .i64 0])):=by
 have q:=Zk a.toNat;refine zhc bs bg g N s t 2 c.toNat w h (by simpa using hn) (by omega) (λw' P K=>?_) (λw' P K=>?_)
 ·obtain⟨X,i,lo,hi,sz,F,e1,e2,e3,e4⟩:=(T.keep K (λe=>n0 e.symm) (λe=>n1 e.symm)).cls a (by omega) a2;have p0:=zO P (i:=0) (by omega) ((ZB _ _ (by omega)).trans b0);have p1:=zO P (i:=1) (by omega) ((ZB _ _ (by omega)).trans b1);have p2:=zO P (i:=2) (by omega) (zaS _ _ _);by_cases hs:sz<=3
  ·exact zdP bs 12 4 a.toNat X i lo hi sz 3 w' F e1 hs (by omega) (by omega) p0
  ·exact zlq bs 12 4 a.toNat b.toNat c.toNat X i lo hi sz 3 true w' F e1 p0 (λ_=>p1) (λ_=>p2) (by simp;omega)
 ·obtain⟨X,i,lo,hi,sz,F,e1,e2,e3,e4⟩:=(T.keep K (λe=>n0 e.symm) (λe=>n1 e.symm)).cls a (by omega) a2;have p0:=zO P (i:=0) (by omega) ((ZB _ _ (by omega)).trans b0);have p1:=zO P (i:=1) (by omega) ((ZB _ _ (by omega)).trans b1);have p2:=zO P (i:=2) (by omega) (zaS _ _ _);refine zck bs 12 3 4 a.toNat w' _ _ _ (by omega) p0 (by omega) ?_;by_cases hs:sz<=3
  ·exact zsU bs 12 4 a.toNat b.toNat c.toNat X i lo hi w' F (by omega) p0 p1 p2 (by omega) (by omega)
  ·exact zh8 bs 12 4 a.toNat X i lo hi sz 3 w' F e1 p0 (by omega) (by omega)
theorem zoW (a b c:UInt8) (h:zh w bs bg g N s t) (T:ZY w) (n0:¬bs=0) (n1:¬bs=1) (hn:t.bn=2) (b0:t.by4 0=a.toNat) (b1:t.by4 1=b.toNat) (a1:224<=a.toNat) (a2:a.toNat<=244) (hb1:zbb a.toNat<=b.toNat) (hb2:(b.toNat:Int)<=Z6 a.toNat) (hg:128<=c.toNat/\c.toNat<=191) (hl:¬zQ a.toNat=3):
 Calls Tryz.prog 212 #[.pointer (some ⟨bs,12,none⟩),.int .u8 c.toNat] w (zV bs bg g N w s (zb5 t 2 c.toNat) (.tuple #[.int .i32 0,.int .i64 1])):=by
 have q:=Zk a.toNat;refine zh9 bs bg g N s t 2 c.toNat w h (by simpa using hn) (by omega) (λw' P K=>?_);obtain⟨X,i,lo,hi,sz,F,e1,e2,e3,e4⟩:=(T.keep K (λe=>n0 e.symm) (λe=>n1 e.symm)).cls a (by omega) a2;have p0:=zO P (i:=0) (by omega) ((ZB _ _ (by omega)).trans b0);have p1:=zO P (i:=1) (by omega) ((ZB _ _ (by omega)).trans b1);have p2:=zO P (i:=2) (by omega) (zaS _ _ _);exact zlq bs 12 4 a.toNat b.toNat c.toNat X i lo hi sz 3 false w' F e1 p0 (λ_=>p1) (λ_=>p2) (by simp;omega)
theorem zoX (a b c:UInt8) (h:zh w bs bg g N s t) (T:ZY w) (n0:¬bs=0) (n1:¬bs=1) (hn:t.bn=2) (b0:t.by4 0=a.toNat) (b1:t.by4 1=b.toNat) (a1:224<=a.toNat) (a2:a.toNat<=244) (hb1:zbb a.toNat<=b.toNat) (hb2:(b.toNat:Int)<=Z6 a.toNat) (hg:128<=c.toNat/\c.toNat<=191) (hl:zQ a.toNat=3):
 Calls Tryz.prog 212 #[.pointer (some ⟨bs,12,none⟩),.int .u8 c.toNat] w (zV bs bg g N w s {zb5 t 2 c.toNat with bn:=0} (.tuple #[.int .i32 (Zn [a,b,c]),.int .i64 2])):=by
 have q:=Zk a.toNat;have g1:=zg7 a.toNat;have g2:=zfC a.toNat;refine zia bs bg g N s t 2 c.toNat _ 3 w h (by simpa using hn) (by omega) (λw' P K=>?_) (λw' P K=>?_) (by omega)
 ·obtain⟨X,i,lo,hi,sz,F,e1,e2,e3,e4⟩:=(T.keep K (λe=>n0 e.symm) (λe=>n1 e.symm)).cls a (by omega) a2;have p0:=zO P (i:=0) (by omega) ((ZB _ _ (by omega)).trans b0);have p1:=zO P (i:=1) (by omega) ((ZB _ _ (by omega)).trans b1);have p2:=zO P (i:=2) (by omega) (zaS _ _ _);exact zdP bs 12 4 a.toNat X i lo hi sz 3 w' F e1 (by omega) (by omega) (by omega) p0
 ·obtain⟨X,i,lo,hi,sz,F,e1,e2,e3,e4⟩:=(T.keep K (λe=>n0 e.symm) (λe=>n1 e.symm)).cls a (by omega) a2;have p0:=zO P (i:=0) (by omega) ((ZB _ _ (by omega)).trans b0);have p1:=zO P (i:=1) (by omega) ((ZB _ _ (by omega)).trans b1);have p2:=zO P (i:=2) (by omega) (zaS _ _ _);have hv:Zn [a,b,c]=(a.toNat:Int)%16*4096+(b.toNat:Int)%64*64+(c.toNat:Int)%64:=by show 64*(64*((a.toNat:Int)-224)+b.toNat-128)+c.toNat-128=_;omega
  rw[hv];exact zck bs 12 3 4 a.toNat w' _ _ _ (by omega) p0 (by omega) (zuH bs 12 4 a.toNat b.toNat c.toNat X i lo hi w' F (by omega) p0 p1 p2 hg (by omega))
theorem zq4 (a b d c:UInt8) (h:zh w bs bg g N s t) (T:ZY w) (n0:¬bs=0) (n1:¬bs=1) (hn:t.bn=3) (b0:t.by4 0=a.toNat) (b1:t.by4 1=b.toNat) (b2:t.by4 2=d.toNat) (a1:240<=a.toNat) (a2:a.toNat<=244) (hb1:zbb a.toNat<=b.toNat) (hb2:(b.toNat:Int)<=Z6 a.toNat) (hd:128<=d.toNat/\d.toNat<=191) (hg:c.toNat<128\/191<c.toNat):
 Calls Tryz.prog 212 #[.pointer (some ⟨bs,12,none⟩),.int .u8 c.toNat] w (zV bs bg g N w s {zb5 t 3 c.toNat with bn:=0} (.tuple #[.int .i32 0,.int .i64 0])):=by
 have q:=Zk a.toNat;refine zhc bs bg g N s t 3 c.toNat w h (by simpa using hn) (by omega) (λw' P K=>?_) (λw' P K=>?_)
 ·obtain⟨X,i,lo,hi,sz,F,e1,e2,e3,e4⟩:=(T.keep K (λe=>n0 e.symm) (λe=>n1 e.symm)).cls a (by omega) a2;have p0:=zO P (i:=0) (by omega) ((ZB _ _ (by omega)).trans b0);have p1:=zO P (i:=1) (by omega) ((ZB _ _ (by omega)).trans b1);have p2:=zO P (i:=2) (by omega) ((ZB _ _ (by omega)).trans b2);have p3:=zO P (i:=3) (by omega) (zaS _ _ _);exact zdP bs 12 4 a.toNat X i lo hi sz 4 w' F e1 (by omega) (by omega) (by omega) p0
 ·obtain⟨X,i,lo,hi,sz,F,e1,e2,e3,e4⟩:=(T.keep K (λe=>n0 e.symm) (λe=>n1 e.symm)).cls a (by omega) a2;have p0:=zO P (i:=0) (by omega) ((ZB _ _ (by omega)).trans b0);have p1:=zO P (i:=1) (by omega) ((ZB _ _ (by omega)).trans b1);have p2:=zO P (i:=2) (by omega) ((ZB _ _ (by omega)).trans b2);have p3:=zO P (i:=3) (by omega) (zaS _ _ _);refine zck bs 12 4 4 a.toNat w' _ _ _ (by omega) p0 (by omega) ?_;exact zsV bs 12 4 a.toNat b.toNat d.toNat c.toNat X i lo hi w' F (by omega) p0 p1 p2 p3 hd (by omega) (by omega)
theorem zoY (a b d c:UInt8) (h:zh w bs bg g N s t) (T:ZY w) (n0:¬bs=0) (n1:¬bs=1) (hn:t.bn=3) (b0:t.by4 0=a.toNat) (b1:t.by4 1=b.toNat) (b2:t.by4 2=d.toNat) (a1:240<=a.toNat) (a2:a.toNat<=244) (hb1:zbb a.toNat<=b.toNat) (hb2:(b.toNat:Int)<=Z6 a.toNat) (hd:128<=d.toNat/\d.toNat<=191) (hg:128<=c.toNat/\c.toNat<=191):
 Calls Tryz.prog 212 #[.pointer (some ⟨bs,12,none⟩),.int .u8 c.toNat] w (zV bs bg g N w s {zb5 t 3 c.toNat with bn:=0} (.tuple #[.int .i32 (Zn [a,b,d,c]),.int .i64 2])):=by
 have q:=Zk a.toNat;have g1:=zg7 a.toNat;have g2:=zfC a.toNat;refine zia bs bg g N s t 3 c.toNat _ 4 w h (by simpa using hn) (by omega) (λw' P K=>?_) (λw' P K=>?_) (by omega)
 ·obtain⟨X,i,lo,hi,sz,F,e1,e2,e3,e4⟩:=(T.keep K (λe=>n0 e.symm) (λe=>n1 e.symm)).cls a (by omega) a2;have p0:=zO P (i:=0) (by omega) ((ZB _ _ (by omega)).trans b0);have p1:=zO P (i:=1) (by omega) ((ZB _ _ (by omega)).trans b1);have p2:=zO P (i:=2) (by omega) ((ZB _ _ (by omega)).trans b2);have p3:=zO P (i:=3) (by omega) (zaS _ _ _);exact zdP bs 12 4 a.toNat X i lo hi sz 4 w' F e1 (by omega) (by omega) (by omega) p0
 ·obtain⟨X,i,lo,hi,sz,F,e1,e2,e3,e4⟩:=(T.keep K (λe=>n0 e.symm) (λe=>n1 e.symm)).cls a (by omega) a2;have p0:=zO P (i:=0) (by omega) ((ZB _ _ (by omega)).trans b0);have p1:=zO P (i:=1) (by omega) ((ZB _ _ (by omega)).trans b1);have p2:=zO P (i:=2) (by omega) ((ZB _ _ (by omega)).trans b2);have p3:=zO P (i:=3) (by omega) (zaS _ _ _);have hv:Zn [a,b,d,c]=(a.toNat:Int)%8*262144+(b.toNat:Int)%64*4096+(d.toNat:Int)%64*64+(c.toNat:Int)%64:=by show 64*(64*(64*((a.toNat:Int)-240)+b.toNat-128)+d.toNat-128)+c.toNat-128=_;omega
  rw[hv];exact zck bs 12 4 4 a.toNat w' _ _ _ (by omega) p0 (by omega) (zuI bs 12 4 a.toNat b.toNat d.toNat c.toNat X i lo hi w' F (by omega) p0 p1 p2 p3 hd hg (by omega))
end
end
end Go.Proofs.YtjlfibhbfdckpaaGreatDoor
