import Derived.Test.YtjlfibhbfdckpaaGreatDoorV47
namespace Go.Proofs.YtjlfibhbfdckpaaGreatDoor
set_option maxHeartbeats 64000000
set_option maxRecDepth 100000
section
open Go.RowKit
attribute [local go_sem ↓] Go.wp_at_zero Go.wp_at_succ
theorem zmV (c:Int) (n:Nat) (w:World) (hn:0<n) (hn2:(n:Int)<=9223372036854775807) (c0:-9223372036854775808<=c) (c1:c<=9223372036854775807):
 Calls Tryz.prog 26 #[.int .i64 c,.int .i64 n] w λe w'=>e=.returned (.int .i64 (zei c n))/\w'=w:=by
 have n0:¬(n:Int)=0:=by omega
 have n0':((n:Int)==0)=false:=by simp;omega
 have lt:=zfX c hn;by_cases hc:c<0
 ·have e:=zjo hn hc;go_in;go_wp2;go_ret;exact⟨rfl,rfl⟩
 ·have e:=zjn hn hc;go_in;go_wp2;go_ret;exact⟨rfl,rfl⟩
theorem zi.keepP {F:Nat->Prop} {w w':World} {bs bc g cap N:Nat} {s:Rs} (h:zi w bs bc g cap N s) (k:zd F w w') (h1:¬F bs) (h2:¬F bc) (h3:¬F g):zi w' bs bc g cap N s:=
 h.same (k.block _ h.lt h1) (k.block _ h.cels.lt h2) (k.block _ h.cels.glt h3)
theorem zpp (x y:Int) (w:World) (hs:ZC x y=false):
 Calls Tryz.prog 9 #[.int .i64 x,.int .i64 y] w λe w'=>e=.returned (.tuple #[.agg (zaE none none none),.bool true])/\Below w.heap.size w w':=by
 go_in;go_wp2_with (first|(go_at_call 15;refine sM (zt4 _ _ _ hs) ?_)|(go_at_call 29;refine sM (zso _ _ _ hs) ?_));exact bodyPost_ret (v:=.tuple #[.agg (zaE none none none),.bool true]) (by simp[results,Tryz.results9,go_sem]) rfl ⟨rfl,(Below.refl _ _).alloc (Nat.le_refl _) _⟩
def zd9:Ca:=⟨0,0,0,0,0,0,0,ByteArray.empty,Pn.plain⟩
def zgR (w:World) (a:Option Addr) (n:Nat) (cs:List Ca):Prop:=
 ∀k,k<n->∃b off,a=some ⟨b,off,none⟩/\b<w.heap.size/\w.cell? ⟨b,off+k*13,none⟩=some (.int .i64 (cs.getD k zd9).kd)/\w.cell? ⟨b,off+k*13+1,none⟩=some (.int .i64 (cs.getD k zd9).on)/\w.cell? ⟨b,off+k*13+2,none⟩=some (.int .i64 (cs.getD k zd9).a)/\w.cell? ⟨b,off+k*13+3,none⟩=some (.int .i64 (cs.getD k zd9).b)/\w.cell? ⟨b,off+k*13+4,none⟩=some (.int .i64 (cs.getD k zd9).c)/\w.cell? ⟨b,off+k*13+5,none⟩=some (.int .i64 (cs.getD k zd9).d)/\w.cell? ⟨b,off+k*13+6,none⟩=some (.int .i64 (cs.getD k zd9).e)/\w.cell? ⟨b,off+k*13+7,none⟩=some (.string (cs.getD k zd9).s)/\w.cell? ⟨b,off+k*13+8,none⟩=some (.int .i64 (cs.getD k zd9).p.f)/\w.cell? ⟨b,off+k*13+9,none⟩=some (.int .i64 (cs.getD k zd9).p.b)/\w.cell? ⟨b,off+k*13+10,none⟩=some (.bool (cs.getD k zd9).p.bo)/\w.cell? ⟨b,off+k*13+11,none⟩=some (.bool (cs.getD k zd9).p.un)/\w.cell? ⟨b,off+k*13+12,none⟩=some (.bool (cs.getD k zd9).p.re)/\-9223372036854775808<=(cs.getD k zd9).on/\(cs.getD k zd9).on<=9223372036854775807
theorem zgR.below {w w':World} {a:Option Addr} {n:Nat} {cs:List Ca} (h:zgR w a n cs) (hb:Below w.heap.size w w'):zgR w' a n cs:=λk hk=>by
 obtain⟨b,off,e,l,c0,c1,c2,c3,c4,c5,c6,c7,c8,c9,c10,c11,c12,o0,o1⟩:=h k hk;exact⟨b,off,e,Nat.lt_of_lt_of_le l hb.size,(hb.cells l _).trans c0,(hb.cells l _).trans c1,(hb.cells l _).trans c2,(hb.cells l _).trans c3,(hb.cells l _).trans c4,(hb.cells l _).trans c5,(hb.cells l _).trans c6,(hb.cells l _).trans c7,(hb.cells l _).trans c8,(hb.cells l _).trans c9,(hb.cells l _).trans c10,(hb.cells l _).trans c11,(hb.cells l _).trans c12,o0,o1⟩
abbrev ztO (xa ya sa xb yb sb:Option Addr):Array Value:=#[.pointer xa,.pointer ya,.pointer sa,.pointer xb,.pointer yb,.pointer sb,.pointer none,.pointer none,.pointer none]
def zfg (w:World) (b:Nat) (xa ya sa xb yb sb:Option Addr):Prop:=w.heap[b]?=some (.cells (ztO xa ya sa xb yb sb) 28)
theorem zfg.lt {w:World} {b:Nat} {xa ya sa xb yb sb:Option Addr} (h:zfg w b xa ya sa xb yb sb):b<w.heap.size:=(Array.getElem?_eq_some_iff.1 h).1
theorem zfg.keep {F:Nat->Prop} {w w':World} {b:Nat} {xa ya sa xb yb sb:Option Addr} (h:zfg w b xa ya sa xb yb sb) (k:zd F w w') (hF:¬F b):zfg w' b xa ya sa xb yb sb:=by
 unfold zfg at *;rw[k.block _ (Array.getElem?_eq_some_iff.1 h).1 hF];exact h
theorem zfg.below {w w':World} {b:Nat} {xa ya sa xb yb sb:Option Addr} (h:zfg w b xa ya sa xb yb sb) (hb:Below w.heap.size w w'):zfg w' b xa ya sa xb yb sb:=h.keep (zd.below (λ_=>False) hb) id
structure zgp (w0:World) (Bl:Nat) (xa ya sa xb yb sb:Option Addr) (A Bq:Option Dv) (m:Int) (w:World):Prop where
 pA:OAt w A xa ya sa
 pB:OAt w Bq xb yb sb
 dj:∀i,zdr A i->¬zdr Bq i
 uA:∀i,zdr A i->w0.heap.size<=i/\i≠Bl
 uB:∀i,zdr Bq i->w0.heap.size<=i/\i≠Bl
 zA:zcG A<=m
 zB:zcG Bq<=m
 bel:Below w0.heap.size w0 w
 ql:zfg w Bl xa ya sa xb yb sb
section
variable {w0 w w':World} {Bl:Nat} {m:Int} {xa ya sa xb yb sb:Option Addr} {A Bq A':Option Dv}
theorem zgp.below (h:zgp w0 Bl xa ya sa xb yb sb A Bq m w) (b:Below w.heap.size w w'):zgp w0 Bl xa ya sa xb yb sb A Bq m w' :=
 ⟨h.pA.below b,h.pB.below b,h.dj,h.uA,h.uB,h.zA,h.zB,h.bel.trans (b.mono h.bel.size),h.ql.below b⟩
theorem zgp.more (h:zgp w0 Bl xa ya sa xb yb sb A Bq m w):zgp w0 Bl xa ya sa xb yb sb A Bq (m+1) w:=
 ⟨h.pA,h.pB,h.dj,h.uA,h.uB,by have:=h.zA;omega,by have:=h.zB;omega,h.bel,h.ql⟩
theorem zgp.stepA (h:zgp w0 Bl xa ya sa xb yb sb A Bq m w) (P:OAt w' A' xa ya sa) (K:zd (zdr A) w w') (u:∀i,zdr A' i->zdr A i\/w.heap.size<=i) (hz:zcG A'<=zcG A+1):zgp w0 Bl xa ya sa xb yb sb A' Bq (m+1) w':=by
 have ll:=h.ql.lt;have sz:=h.bel.size;have hzA:=h.zA;have hzB:=h.zB;refine⟨P,h.pB.keep K (λi hi q=>h.dj i q hi),λi hi q=>?_,λi hi=>?_,h.uB,by omega,by omega,h.bel.trans (K.toBelow sz (λi hi q=>?_)),h.ql.keep K (λq=>(h.uA _ q).2 rfl)⟩
 ·rcases u i hi with e|e
  ·exact h.dj i e q
  ·have:=h.pB.lt q;omega
 ·rcases u i hi with e|e
  ·exact h.uA i e
  ·exact⟨by omega,by omega⟩
 ·have:=(h.uA i q).1;omega
theorem zgp.stepB (h:zgp w0 Bl xa ya sa xb yb sb A Bq m w) (P:OAt w' A' xb yb sb) (K:zd (zdr Bq) w w') (u:∀i,zdr A' i->zdr Bq i\/w.heap.size<=i) (hz:zcG A'<=zcG Bq+1):zgp w0 Bl xa ya sa xb yb sb A A' (m+1) w':=by
 have ll:=h.ql.lt;have sz:=h.bel.size;have hzA:=h.zA;have hzB:=h.zB;refine⟨h.pA.keep K (λi hi q=>h.dj i hi q),P,λi hi q=>?_,h.uA,λi hi=>?_,by omega,by omega,h.bel.trans (K.toBelow sz (λi hi q=>?_)),h.ql.keep K (λq=>(h.uB _ q).2 rfl)⟩
 ·rcases u i q with e|e
  ·exact h.dj i hi e
  ·have:=h.pA.lt hi;omega
 ·rcases u i hi with e|e
  ·exact h.uB i e
  ·exact⟨by omega,by omega⟩
 ·have:=(h.uB i q).1;omega
end
end
section
set_option maxRecDepth 100000
open Go.RowKit
attribute [local go_sem ↓] Go.wp_at_zero Go.wp_at_succ
def zwp:Ca:=⟨1,0,0,1,0,2,1,⟨#[]⟩,Pn.plain⟩
def zw6:Ca:=⟨8,0,1,0,0,0,0,⟨#[120,121]⟩,Pn.plain⟩
def exW:Wn:=⟨1,0,1,0,true,2,1,λ_ _=>blk Pn.plain⟩
def zin:List Wn:=[Zd 4 2,exW]
def exG:Nat->Nat->zk:=writeAll 2 1 0 Pn.plain 0 (Zh ⟨#[120,121]⟩ 2 0) (λ_ _=>blk Pn.plain)
def zkb:List Wn:=zY zin 1 (λu=>{u with G:=exG})
end
section
open Go.RowKit
attribute [local go_sem ↓] Go.wp_at_zero Go.wp_at_succ
theorem zgS (W H:Nat) (w:World) (hs:ZC W H=true) (hw:2<=w.heap.size):
 Calls Tryz.prog 9 #[.int .i64 W,.int .i64 H] w λe w'=>∃D:Dv,e=.returned (.tuple #[.agg (zaE D.xp D.yp D.sp),.bool true])/\zc2 w' D/\D.L=[Zd W H]/\D.last=0/\Below w.heap.size w w'/\(∀i,D.own i->w.heap.size<=i)/\DvI D:=by
 have hz:=Zs.1 hs;have Hs:=zH hs;go_in;go_wp2_with fail;go_at_call 15;refine(zwD W H _ (by omega) (by omega) (by omega) (by omega) (by rw[size_alloc];omega)).mono ?_;rintro e wa ⟨M,rfl,D1,b1,o1⟩;rw[size_alloc] at b1 o1;have c0:wa.cell? ⟨w.heap.size,0,none⟩=some (.pointer none):=by rw[b1.cells (by omega),za (zf w _)];rfl
 have c1:wa.cell? ⟨w.heap.size,1,none⟩=some (.pointer none):=by rw[b1.cells (by omega),za (zf w _)];rfl
 have c2:wa.cell? ⟨w.heap.size,2,none⟩=some (.pointer none):=by rw[b1.cells (by omega),za (zf w _)];rfl
 have fz:∀o,wa.frozen? ⟨w.heap.size,o,none⟩=false:=λo=>by rw[b1.marks (by omega),ze (zf w _)]
 have HB:=zH<|((Below.refl _ _).alloc (Nat.le_refl _) _).trans (b1.mono (by omega))
 have hsz:w.heap.size+1<=wa.heap.size:=by have:=b1.size;rwa [size_alloc] at this
 have HD:=zH D1;have HO:Hid (∀i,M.own [Zd W H] i->w.heap.size+1<=i/\i<wa.heap.size):=λi hi=>⟨o1 i hi,D1.lt hi⟩;clear D1 b1 o1;go_wp2_with fail;go_at_call 29;refine(zvH W H _ Hs.out (by omega)).mono ?_;rintro e wb ⟨R,rfl,R1,b2,o2⟩;replace HD:=zH<|HD.out.below b2
 have HR:=zH R1;have HO2:Hid (∀i,R.own [Zd W H] i->wa.heap.size<=i/\i<wb.heap.size):=λi hi=>⟨o2 i hi,R1.lt hi⟩;replace HB:=zH<|HB.out.trans (b2.mono (by omega))
 replace c0:wb.cell? ⟨w.heap.size,0,none⟩=some (.pointer none):=by rw[b2.cells (by omega)];exact c0
 replace c1:wb.cell? ⟨w.heap.size,1,none⟩=some (.pointer none):=by rw[b2.cells (by omega)];exact c1
 replace c2:wb.cell? ⟨w.heap.size,2,none⟩=some (.pointer none):=by rw[b2.cells (by omega)];exact c2
 replace fz:∀o,wb.frozen? ⟨w.heap.size,o,none⟩=false:=λo=>by rw[b2.marks (by omega)];exact fz o
 have s2:=b2.size;clear R1 b2 o2;go_wp2_with fail;go_at_call 30;refine(ziU W H _ (by omega) (by omega) (by omega) (by omega)).mono ?_;rintro e wc ⟨bs,bc,g,cap,rfl,r1,r2,r3,Z1,b3⟩;replace HD:=zH<|HD.out.below b3
 replace HR:=zH<|HR.out.below b3
 have HZ:=zH Z1;replace HB:=zH<|HB.out.trans (b3.mono (by omega))
 replace c0:wc.cell? ⟨w.heap.size,0,none⟩=some (.pointer none):=by rw[b3.cells (by omega)];exact c0
 replace c1:wc.cell? ⟨w.heap.size,1,none⟩=some (.pointer none):=by rw[b3.cells (by omega)];exact c1
 replace c2:wc.cell? ⟨w.heap.size,2,none⟩=some (.pointer none):=by rw[b3.cells (by omega)];exact c2
 replace fz:∀o,wc.frozen? ⟨w.heap.size,o,none⟩=false:=λo=>by rw[b3.marks (by omega)];exact fz o
 have s3:=b3.size;clear Z1 b3;go_wp2_with fail;have K:zd (λi=>i=w.heap.size) wc (((wc.setCell ⟨w.heap.size,0,none⟩ (.pointer (some ⟨M.t 0,0,none⟩))).setCell ⟨w.heap.size,1,none⟩ (.pointer (some ⟨R.d,0,none⟩))).setCell ⟨w.heap.size,2,none⟩ (.pointer (some ⟨bs,0,none⟩))):=(((zd.refl (λi=>i=w.heap.size) wc).setCell ⟨w.heap.size,0,none⟩ _ (λ_=>rfl)).setCell ⟨w.heap.size,1,none⟩ _ (λ_=>rfl)).setCell ⟨w.heap.size,2,none⟩ _ (λ_=>rfl);have hno:∀i,(M.own [Zd W H] i\/R.own [Zd W H] i\/i=bs\/i=bc\/i=g)->w.heap.size+1<=i:=by
  rintro i (hi|hi|hi)
  ·exact(HO.out i hi).1
  ·have:=(HO2.out i hi).1;omega
  ·omega
 refine bodyPost_ret (v:=.tuple #[.agg (zaE (some ⟨M.t 0,0,none⟩) (some ⟨R.d,0,none⟩) (some ⟨bs,0,none⟩)),.bool true]) (by simp[results,Tryz.results9,go_sem,c0,c1,c2]) rfl ⟨⟨M,H*W,zfh W H,zl2,R,[Zd W H],0,bs,bc,g,cap,H*W,zfh W H⟩,rfl,⟨HD.out.keep K (λi hi e=>by have:=hno i (.inl hi);omega),HR.out.keep K (λi hi e=>by have:=hno i (.inr (.inl hi));omega),HZ.out.keepP K (by omega) (by omega) (by omega),zr0 W H,zg4 (by omega) (by omega) (by omega) (by omega),zg4 (by omega) (by omega) (by omega) (by omega),Int.le_refl 0,λi hi hr=>?_,λi hi hs=>?_,λi hi hs=>?_⟩,rfl,rfl,HB.out.trans (K.toBelow (by omega) (λi hi=>by omega)),λi hi=>?_,⟨rfl,zg0 rfl rfl,⟨zsI (by omega) (by omega) (by omega) (by omega),zk7 W H,λv hv _=>by
  obtain rfl:v=Zd W H:=by simpa using hv
  exact⟨rfl,rfl⟩⟩⟩⟩
 ·have:=(HO.out i hi).2;have:=(HO2.out i hr).1;omega
 ·have:=(HO.out i hi).2;have hs':i=bs\/i=bc\/i=g:=hs;omega
 ·have:=(HO2.out i hi).2;have hs':i=bs\/i=bc\/i=g:=hs;omega
 ·have:=hno i hi;omega
theorem zlE (x y:Int) (w:World) (hw:2<=w.heap.size):
 Calls Tryz.prog 9 #[.int .i64 x,.int .i64 y] w λe w'=>∃O px py ps,e=.returned (.tuple #[.agg (zaE px py ps),.bool true])/\OAt w' O px py ps/\Below w.heap.size w w'/\(∀i,zdr O i->w.heap.size<=i)/\zcG O=0/\oI O:=by
 cases hs:ZC x y with
 |false=>
  refine(zpp x y w hs).mono ?_;rintro e w' ⟨rfl,b⟩;exact⟨none,none,none,none,rfl,⟨rfl,rfl,rfl⟩,b,λi hi=>False.elim hi,rfl,trivial⟩
 |true=>
  obtain⟨a1,a2,a3,a4⟩:=Zs.1 hs;obtain⟨W,rfl⟩:=Int.eq_ofNat_of_zero_le (show 0<=x by omega);obtain⟨H,rfl⟩:=Int.eq_ofNat_of_zero_le (show 0<=y by omega);refine(zgS W H w hs hw).mono ?_;rintro e w' ⟨D,rfl,h,_,hl,b,u,hi⟩;exact⟨some D,D.xp,D.yp,D.sp,rfl,⟨rfl,rfl,rfl,h⟩,b,u,hl,hi⟩
structure PlI (w0:World) (Bl:Nat) (xa ya sa xb yb sb:Option Addr) (A Bq:Option Dv) (m:Int) (w:World):Prop where
 pl:zgp w0 Bl xa ya sa xb yb sb A Bq m w
 iA:oI A
 iB:oI Bq
section
variable {w0 w w':World} {Bl:Nat} {m:Int} {xa ya sa xb yb sb:Option Addr} {A Bq A':Option Dv}
theorem PlI.below (h:PlI w0 Bl xa ya sa xb yb sb A Bq m w) (b:Below w.heap.size w w'):PlI w0 Bl xa ya sa xb yb sb A Bq m w':=⟨h.pl.below b,h.iA,h.iB⟩
theorem PlI.more (h:PlI w0 Bl xa ya sa xb yb sb A Bq m w):PlI w0 Bl xa ya sa xb yb sb A Bq (m+1) w:=⟨h.pl.more,h.iA,h.iB⟩
end
theorem ztk {w:World} {x y s:Option Addr} (o:Ca) (h13:o.kd=13) {Q:World->World->Prop}
 (hM:∀wA,Below w.heap.size w wA->Calls Tryz.prog 28 #[.agg (zaE x y s)] wA λe w'=>e=.returned (.bool true)/\Q wA w'):
 Calls Tryz.prog 10 #[.agg (zaE x y s),o.agg] w λe w'=>e=.returned (.bool true)/\∃wA,Below w.heap.size w wA/\Q wA w':=by
 obtain⟨kd,on,A,B,C,E,F,tx,p⟩:=o;dsimp only at h13;subst h13;have HM:=zH hM;clear hM;go_in;go_wp2_with fail;generalize hwA:World.alloc (w.alloc _) _=wA;obtain⟨Hba,Hd,Hc⟩:=zkS (o:=⟨_,on,A,B,C,E,F,tx,p⟩) hwA;clear hwA;go_at_call 28;refine(HM.out wA Hba.out).mono ?_;rintro e w1 ⟨rfl,hq⟩;have Hq:=zH hq;clear hq;go_wp2_with fail;go_ret;exact⟨rfl,wA,Hba.out,Hq.out⟩
theorem zmW {w:World} {O:Option Dv} {x y s:Option Addr} (h:OAt w O x y s) (hi:oI O) (tab:ZY w) (o:Ca) (hl:zcG O<9223372036854775807):
 Calls Tryz.prog 10 #[.agg (zaE x y s),o.agg] w (zbu w O x y s):=by
 by_cases h13:o.kd=13
 ·refine(ztk o h13 (Q:=λwA w'=>zbu wA O x y s (.returned (.bool true)) w') (λwA b=>(ze0 (h.below b) hi (tab.below b)).mono (λe w' q=>?_))).mono (λe w' q=>?_)
  ·have he:e=.returned (.bool true):=by obtain⟨_,e,_⟩:=q;exact e
   subst he;exact⟨rfl,q⟩
  ·obtain⟨rfl,wA,b,q⟩:=q;exact zbu.after b q
 ·exact zpj h hi o h13 hl
theorem ztl (x y v u:Int) (a:Option Addr) (n cap:Nat) (cs:List Ca) (w:World) (hw:2<=w.heap.size) (hF:zgR w a n cs) (tab:ZY w) (hn:n<=9223372036854775807):
 Calls Tryz.prog 8 #[.int .i64 x,.int .i64 y,.int .i64 v,.int .i64 u,.slice a n cap,.bool true] w λe w'=>e=.returned (.bool true)/\Below w.heap.size w w':=by
 have HF:=zH hF;have HT:=zH tab;clear hF tab;go_in;go_wp2_with fail;go_at_call 9;refine(zlE x y _ hw).mono ?_;rintro e w1 ⟨A,xa,ya,sa,rfl,PA,b1,uA,zA,iA⟩;have HPA:=zH PA;have HuA:=zH uA;have HzA:=zH zA;have HB:=zH b1;have HltA:Hid (∀i,zdr A i->i<w1.heap.size):=λi hi=>PA.lt hi;have hs1:=b1.size;have HiA:=zH iA;clear PA uA zA b1 iA;go_wp2_with fail;generalize hw2:w1.alloc _=w2;have b2:Below w1.heap.size w1 w2:=by rw[←hw2];exact(Below.refl _ _).alloc (Nat.le_refl _) _
 have HPa:Hid (zeA w2 w1.heap.size xa ya sa):=by show _=_;rw[←hw2];exact zf w1 _
 replace HPA:=zH<|HPA.out.below b2
 replace HB:=zH<|HB.out.trans (b2.mono hs1)
 have hs2:=HPa.out.lt;generalize w1.heap.size=Ba at *;clear b2 hw2;go_at_call 9;refine(zlE v u _ (by omega)).mono ?_;rintro e w3 ⟨Bq,xb,yb,sb',rfl,PB,b3,uB,zB,iB⟩;have HPB:=zH PB;have HuB:=zH uB;have HltB:Hid (∀i,zdr Bq i->i<w3.heap.size):=λi hi=>PB.lt hi;have HzB:=zH zB;replace HPA:=zH<|HPA.out.below b3
 replace HPa:=zH<|HPa.out.below b3
 replace HB:=zH<|HB.out.trans (b3.mono (by omega))
 have hs3:=b3.size;generalize w2.heap.size=n2 at *;have HiB:=zH iB;clear PB uB zB b3 iB;obtain⟨q0,q1,q2⟩:=HPa.out.cells;have lqa:=HPa.out.lt;go_wp2_with fail;generalize hw4:World.alloc (w3.alloc _) _=w4;have b4:Below w3.heap.size w3 w4:=by rw[←hw4];exact((Below.refl _ _).alloc (Nat.le_refl _) _).alloc (by simp) _
 have HSc:Hid (PlI w (w3.heap.size+1) xa ya sa xb yb sb' A Bq 0 w4):=by
  refine⟨⟨HPA.out.below b4,HPB.out.below b4,λi hi q=>?_,λi hi=>?_,λi hi=>?_,Int.le_of_eq HzA.out,Int.le_of_eq HzB.out,HB.out.trans (b4.mono (by omega)),?_⟩,HiA.out,HiB.out⟩
  ·have:=HltA.out i hi;have:=HuB.out i q;omega
  ·have:=HltA.out i hi;have:=HuA.out i hi;omega
  ·have:=HltB.out i hi;have:=HuB.out i hi;omega
  ·show _=_;rw[←hw4];have:=zf (w3.alloc (.cells (zaE xb yb sb') 28)) (.cells (ztO xa ya sa xb yb sb') 28);rwa [size_alloc] at this
 generalize w3.heap.size+1=Bl at *;clear hw4 b4 q0 q1 q2 lqa HPA HPB HzA HzB HB HPa HuA HuB HltA HltB HiA HiB;go_loopw[18] (λi w'=>∃(k:Nat) (A Bq:Option Dv),k<=n/\i=.int .i64 k/\PlI w Bl xa ya sa xb yb sb' A Bq k w') (λi _=>n-(intOf i).toNat)
 case atStart=>exact⟨0,A,Bq,by omega,rfl,HSc.out⟩
 case round=>
  obtain⟨k,A,Bq,hk,rfl,hS⟩:=hrel;clear HSc;have HSc:=zH hS;by_cases hlt:k<n
  ·have hlt':(k:Int)<n:=by omega
   obtain⟨sb,so,rfl,sbl,s0,s1,s2,s3,s4,s5,s6,s7,s8,s9,s10,s11,s12,o0,o1⟩:=HF.out k hlt;replace s0:=(hS.pl.bel.cells sbl _).trans s0;replace s1:=(hS.pl.bel.cells sbl _).trans s1;replace s2:=(hS.pl.bel.cells sbl _).trans s2;replace s3:=(hS.pl.bel.cells sbl _).trans s3;replace s4:=(hS.pl.bel.cells sbl _).trans s4;replace s5:=(hS.pl.bel.cells sbl _).trans s5;replace s6:=(hS.pl.bel.cells sbl _).trans s6;replace s7:=(hS.pl.bel.cells sbl _).trans s7;replace s8:=(hS.pl.bel.cells sbl _).trans s8;replace s9:=(hS.pl.bel.cells sbl _).trans s9;replace s10:=(hS.pl.bel.cells sbl _).trans s10;replace s11:=(hS.pl.bel.cells sbl _).trans s11;replace s12:=(hS.pl.bel.cells sbl _).trans s12;generalize cs.getD k zd9=o at *;have lp:=zfX o.on (n:=3) (by omega);obtain⟨p,hp⟩:∃p,zei o.on 3=p:=⟨_,rfl⟩;rw[hp] at lp;have hcase:p=0\/p=1\/p=2:=by omega
   have HlA:Hid (zcG A<9223372036854775807):=by have:=hS.pl.zA;show _<_;omega
   have HlB:Hid (zcG Bq<9223372036854775807):=by have:=hS.pl.zB;show _<_;omega
   clear hS;go_upto_region 9 with fail
   go_cut[61] (λv wc=>v=.bool false/\wc=wr)
   case first=>
    cases h13:(o.kd==13) with
    |true=>
     go_wp2_with fail;go_meet
     case rel=>exact⟨rfl,rfl⟩
    |false=>
     go_wp2_with fail;go_meet
     case rel=>exact⟨rfl,rfl⟩
   case rest=>
   obtain⟨rfl,hwc⟩:=hcut;replace hwc:=hwc.symm;subst hwc;go_wp2_with fail;rcases hcase with rfl|rfl|rfl
   ·skip
    have r0:wr.cell? ⟨Bl,0,none⟩=some (.pointer xa):=za HSc.out.pl.ql 0;have r1:wr.cell? ⟨Bl,1,none⟩=some (.pointer ya):=za HSc.out.pl.ql 1;have r2:wr.cell? ⟨Bl,2,none⟩=some (.pointer sa):=za HSc.out.pl.ql 2;have HD:Hid (PlI w Bl xa ya sa xb yb sb' A Bq k wr.drew):=HSc.out.below (Zc wr 1);go_region_held3 (λw'=>w'.cell? ⟨sb,so+k*13,none⟩=some (.int .i64 o.kd)/\w'.cell? ⟨sb,so+k*13+1,none⟩=some (.int .i64 o.on)/\w'.cell? ⟨sb,so+k*13+2,none⟩=some (.int .i64 o.a)/\w'.cell? ⟨sb,so+k*13+3,none⟩=some (.int .i64 o.b)/\w'.cell? ⟨sb,so+k*13+4,none⟩=some (.int .i64 o.c)/\w'.cell? ⟨sb,so+k*13+5,none⟩=some (.int .i64 o.d)/\w'.cell? ⟨sb,so+k*13+6,none⟩=some (.int .i64 o.e)/\w'.cell? ⟨sb,so+k*13+7,none⟩=some (.string o.s)/\w'.cell? ⟨sb,so+k*13+8,none⟩=some (.int .i64 o.p.f)/\w'.cell? ⟨sb,so+k*13+9,none⟩=some (.int .i64 o.p.b)/\w'.cell? ⟨sb,so+k*13+10,none⟩=some (.bool o.p.bo)/\w'.cell? ⟨sb,so+k*13+11,none⟩=some (.bool o.p.un)/\w'.cell? ⟨sb,so+k*13+12,none⟩=some (.bool o.p.re)/\w'.cell? ⟨Bl,0,none⟩=some (.pointer xa)/\w'.cell? ⟨Bl,1,none⟩=some (.pointer ya)/\w'.cell? ⟨Bl,2,none⟩=some (.pointer sa)) (simp[*]) (first|(go_at_call 26;refine sM (zmV o.on 3 _ (by omega) (by omega) o0 o1) ?_;rw[hp])|(go_at_call 10;refine(zmW HD.out.pl.pA HD.out.iA (HT.out.below HD.out.pl.bel) o HlA.out).mono ?_;rintro e w6 ⟨A6,rfl,P6,i6,K6,u6,z6⟩;have HS6:Hid (PlI w Bl xa ya sa xb yb sb' A6 Bq ((k:Int)+1) w6):=⟨HD.out.pl.stepA P6 K6 u6 z6,i6,HD.out.iB⟩;have e1:=λo=>(HS6.out.pl.bel.cells sbl o).trans (HSc.out.pl.bel.cells sbl o).symm;have e2:w6.cell? ⟨Bl,0,none⟩=some (.pointer xa):=za HS6.out.pl.ql 0;have e3:w6.cell? ⟨Bl,1,none⟩=some (.pointer ya):=za HS6.out.pl.ql 1;have e4:w6.cell? ⟨Bl,2,none⟩=some (.pointer sa):=za HS6.out.pl.ql 2));go_wp2_with fail;exact⟨⟨k+1,_,_,by omega,by simp,HS6.out⟩,by simp only[intOf];omega⟩
   ·skip
    have r0:wr.cell? ⟨Bl,3,none⟩=some (.pointer xb):=za HSc.out.pl.ql 3;have r1:wr.cell? ⟨Bl,4,none⟩=some (.pointer yb):=za HSc.out.pl.ql 4;have r2:wr.cell? ⟨Bl,5,none⟩=some (.pointer sb'):=za HSc.out.pl.ql 5;have HD:Hid (PlI w Bl xa ya sa xb yb sb' A Bq k wr.drew):=HSc.out.below (Zc wr 1);go_region_held3 (λw'=>w'.cell? ⟨sb,so+k*13,none⟩=some (.int .i64 o.kd)/\w'.cell? ⟨sb,so+k*13+1,none⟩=some (.int .i64 o.on)/\w'.cell? ⟨sb,so+k*13+2,none⟩=some (.int .i64 o.a)/\w'.cell? ⟨sb,so+k*13+3,none⟩=some (.int .i64 o.b)/\w'.cell? ⟨sb,so+k*13+4,none⟩=some (.int .i64 o.c)/\w'.cell? ⟨sb,so+k*13+5,none⟩=some (.int .i64 o.d)/\w'.cell? ⟨sb,so+k*13+6,none⟩=some (.int .i64 o.e)/\w'.cell? ⟨sb,so+k*13+7,none⟩=some (.string o.s)/\w'.cell? ⟨sb,so+k*13+8,none⟩=some (.int .i64 o.p.f)/\w'.cell? ⟨sb,so+k*13+9,none⟩=some (.int .i64 o.p.b)/\w'.cell? ⟨sb,so+k*13+10,none⟩=some (.bool o.p.bo)/\w'.cell? ⟨sb,so+k*13+11,none⟩=some (.bool o.p.un)/\w'.cell? ⟨sb,so+k*13+12,none⟩=some (.bool o.p.re)/\w'.cell? ⟨Bl,3,none⟩=some (.pointer xb)/\w'.cell? ⟨Bl,4,none⟩=some (.pointer yb)/\w'.cell? ⟨Bl,5,none⟩=some (.pointer sb')) (simp[*]) (first|(go_at_call 26;refine sM (zmV o.on 3 _ (by omega) (by omega) o0 o1) ?_;rw[hp])|(go_at_call 10;refine(zmW HD.out.pl.pB HD.out.iB (HT.out.below HD.out.pl.bel) o HlB.out).mono ?_;rintro e w6 ⟨A6,rfl,P6,i6,K6,u6,z6⟩;have HS6:Hid (PlI w Bl xa ya sa xb yb sb' A A6 ((k:Int)+1) w6):=⟨HD.out.pl.stepB P6 K6 u6 z6,HD.out.iA,i6⟩;have e1:=λo=>(HS6.out.pl.bel.cells sbl o).trans (HSc.out.pl.bel.cells sbl o).symm;have e2:w6.cell? ⟨Bl,3,none⟩=some (.pointer xb):=za HS6.out.pl.ql 3;have e3:w6.cell? ⟨Bl,4,none⟩=some (.pointer yb):=za HS6.out.pl.ql 4;have e4:w6.cell? ⟨Bl,5,none⟩=some (.pointer sb'):=za HS6.out.pl.ql 5));go_wp2_with fail;exact⟨⟨k+1,_,_,by omega,by simp,HS6.out⟩,by simp only[intOf];omega⟩
   ·skip
    have r0:wr.cell? ⟨Bl,6,none⟩=some (.pointer none):=za HSc.out.pl.ql 6;have r1:wr.cell? ⟨Bl,7,none⟩=some (.pointer none):=za HSc.out.pl.ql 7;have r2:wr.cell? ⟨Bl,8,none⟩=some (.pointer none):=za HSc.out.pl.ql 8;have HD:Hid (PlI w Bl xa ya sa xb yb sb' A Bq k wr.drew):=HSc.out.below (Zc wr 1);go_region_held3 (λw'=>w'.cell? ⟨sb,so+k*13,none⟩=some (.int .i64 o.kd)/\w'.cell? ⟨sb,so+k*13+1,none⟩=some (.int .i64 o.on)/\w'.cell? ⟨sb,so+k*13+2,none⟩=some (.int .i64 o.a)/\w'.cell? ⟨sb,so+k*13+3,none⟩=some (.int .i64 o.b)/\w'.cell? ⟨sb,so+k*13+4,none⟩=some (.int .i64 o.c)/\w'.cell? ⟨sb,so+k*13+5,none⟩=some (.int .i64 o.d)/\w'.cell? ⟨sb,so+k*13+6,none⟩=some (.int .i64 o.e)/\w'.cell? ⟨sb,so+k*13+7,none⟩=some (.string o.s)/\w'.cell? ⟨sb,so+k*13+8,none⟩=some (.int .i64 o.p.f)/\w'.cell? ⟨sb,so+k*13+9,none⟩=some (.int .i64 o.p.b)/\w'.cell? ⟨sb,so+k*13+10,none⟩=some (.bool o.p.bo)/\w'.cell? ⟨sb,so+k*13+11,none⟩=some (.bool o.p.un)/\w'.cell? ⟨sb,so+k*13+12,none⟩=some (.bool o.p.re)/\w'.cell? ⟨Bl,6,none⟩=some (.pointer none)/\w'.cell? ⟨Bl,7,none⟩=some (.pointer none)/\w'.cell? ⟨Bl,8,none⟩=some (.pointer none)) (simp[*]) (first|(go_at_call 26;refine sM (zmV o.on 3 _ (by omega) (by omega) o0 o1) ?_;rw[hp])|(go_at_call 10;refine(zmW (O:=none) (x:=none) (y:=none) (s:=none) ⟨rfl,rfl,rfl⟩ trivial (HT.out.below HD.out.pl.bel) o (by show(0:Int)<_;omega)).mono ?_;rintro e w6 ⟨A6,rfl,P6,i6,K6,u6,z6⟩;have HS6:=zH<|(HD.out.below (K6.toBelow (Nat.le_refl _) (λ_ _ q=>q))).more;have e1:=λo=>(HS6.out.pl.bel.cells sbl o).trans (HSc.out.pl.bel.cells sbl o).symm;have e2:w6.cell? ⟨Bl,6,none⟩=some (.pointer none):=za HS6.out.pl.ql 6;have e3:w6.cell? ⟨Bl,7,none⟩=some (.pointer none):=za HS6.out.pl.ql 7;have e4:w6.cell? ⟨Bl,8,none⟩=some (.pointer none):=za HS6.out.pl.ql 8));go_wp2_with fail;exact⟨⟨k+1,_,_,by omega,by simp,HS6.out⟩,by simp only[intOf];omega⟩
  ·have hlt':¬(k:Int)<n:=by omega
   clear hS;go_wp2_with fail;go_loopw[20] (λi w'=>∃(j:Nat) (A Bq:Option Dv) (m:Int),j<=3/\i=.int .i64 j/\PlI w Bl xa ya sa xb yb sb' A Bq m w') (λi _=>3-(intOf i).toNat)
   case atStart=>exact⟨0,A,Bq,k,by omega,rfl,HSc.out⟩
   case round=>
    obtain⟨j,A,Bq,m,hj,rfl,hS⟩:=hrel;clear HSc;have HSc:=zH hS;clear hS;obtain rfl|rfl|rfl|rfl:j=0\/j=1\/j=2\/j=3:=by omega
    ·skip
     have r0:wr.cell? ⟨Bl,0,none⟩=some (.pointer xa):=za HSc.out.pl.ql 0;have r1:wr.cell? ⟨Bl,1,none⟩=some (.pointer ya):=za HSc.out.pl.ql 1;have r2:wr.cell? ⟨Bl,2,none⟩=some (.pointer sa):=za HSc.out.pl.ql 2;go_wp2_with fail;go_at_call 27;refine(zf8 HSc.out.pl.pA).mono ?_;rintro e w5 ⟨rfl,b5⟩;have HS5:=zH<|HSc.out.below b5
     clear b5 r0 r1 r2;have r0:w5.cell? ⟨Bl,0,none⟩=some (.pointer xa):=za HS5.out.pl.ql 0;have r1:w5.cell? ⟨Bl,1,none⟩=some (.pointer ya):=za HS5.out.pl.ql 1;have r2:w5.cell? ⟨Bl,2,none⟩=some (.pointer sa):=za HS5.out.pl.ql 2;go_wp2_with fail;go_at_call 28;refine(ze0 HS5.out.pl.pA HS5.out.iA (HT.out.below HS5.out.pl.bel)).mono ?_;rintro e w6 ⟨A6,rfl,P6,i6,K6,u6,z6⟩;have HS6:Hid (PlI w Bl xa ya sa xb yb sb' A6 Bq (m+1) w6):=⟨HS5.out.pl.stepA P6 K6 u6 z6,i6,HS5.out.iB⟩;clear P6 i6 K6 u6 z6 r0 r1 r2;have r0:w6.cell? ⟨Bl,0,none⟩=some (.pointer xa):=za HS6.out.pl.ql 0;have r1:w6.cell? ⟨Bl,1,none⟩=some (.pointer ya):=za HS6.out.pl.ql 1;have r2:w6.cell? ⟨Bl,2,none⟩=some (.pointer sa):=za HS6.out.pl.ql 2;go_wp2_with fail;go_at_call 27;refine(zf8 HS6.out.pl.pA).mono ?_;rintro e w7 ⟨rfl,b7⟩;have HS7:=zH<|HS6.out.below b7
     clear b7 r0 r1 r2;go_wp2_with fail;exact⟨⟨1,_,_,_,by omega,by simp,HS7.out⟩,by simp[intOf]⟩
    ·skip
     have r0:wr.cell? ⟨Bl,3,none⟩=some (.pointer xb):=za HSc.out.pl.ql 3;have r1:wr.cell? ⟨Bl,4,none⟩=some (.pointer yb):=za HSc.out.pl.ql 4;have r2:wr.cell? ⟨Bl,5,none⟩=some (.pointer sb'):=za HSc.out.pl.ql 5;go_wp2_with fail;go_at_call 27;refine(zf8 HSc.out.pl.pB).mono ?_;rintro e w5 ⟨rfl,b5⟩;have HS5:=zH<|HSc.out.below b5
     clear b5 r0 r1 r2;have r0:w5.cell? ⟨Bl,3,none⟩=some (.pointer xb):=za HS5.out.pl.ql 3;have r1:w5.cell? ⟨Bl,4,none⟩=some (.pointer yb):=za HS5.out.pl.ql 4;have r2:w5.cell? ⟨Bl,5,none⟩=some (.pointer sb'):=za HS5.out.pl.ql 5;go_wp2_with fail;go_at_call 28;refine(ze0 HS5.out.pl.pB HS5.out.iB (HT.out.below HS5.out.pl.bel)).mono ?_;rintro e w6 ⟨A6,rfl,P6,i6,K6,u6,z6⟩;have HS6:Hid (PlI w Bl xa ya sa xb yb sb' A A6 (m+1) w6):=⟨HS5.out.pl.stepB P6 K6 u6 z6,HS5.out.iA,i6⟩;clear P6 i6 K6 u6 z6 r0 r1 r2;have r0:w6.cell? ⟨Bl,3,none⟩=some (.pointer xb):=za HS6.out.pl.ql 3;have r1:w6.cell? ⟨Bl,4,none⟩=some (.pointer yb):=za HS6.out.pl.ql 4;have r2:w6.cell? ⟨Bl,5,none⟩=some (.pointer sb'):=za HS6.out.pl.ql 5;go_wp2_with fail;go_at_call 27;refine(zf8 HS6.out.pl.pB).mono ?_;rintro e w7 ⟨rfl,b7⟩;have HS7:=zH<|HS6.out.below b7
     clear b7 r0 r1 r2;go_wp2_with fail;exact⟨⟨2,_,_,_,by omega,by simp,HS7.out⟩,by simp[intOf]⟩
    ·skip
     have r0:wr.cell? ⟨Bl,6,none⟩=some (.pointer none):=za HSc.out.pl.ql 6;have r1:wr.cell? ⟨Bl,7,none⟩=some (.pointer none):=za HSc.out.pl.ql 7;have r2:wr.cell? ⟨Bl,8,none⟩=some (.pointer none):=za HSc.out.pl.ql 8;go_wp2_with fail;go_at_call 27;refine(zf8 (O:=none) (x:=none) (y:=none) (s:=none) ⟨rfl,rfl,rfl⟩).mono ?_;rintro e w5 ⟨rfl,b5⟩;have HS5:=zH<|HSc.out.below b5
     clear b5 r0 r1 r2;have r0:w5.cell? ⟨Bl,6,none⟩=some (.pointer none):=za HS5.out.pl.ql 6;have r1:w5.cell? ⟨Bl,7,none⟩=some (.pointer none):=za HS5.out.pl.ql 7;have r2:w5.cell? ⟨Bl,8,none⟩=some (.pointer none):=za HS5.out.pl.ql 8;go_wp2_with fail;go_at_call 28;refine(ze0 (O:=none) (x:=none) (y:=none) (s:=none) ⟨rfl,rfl,rfl⟩ trivial (HT.out.below HS5.out.pl.bel)).mono ?_;rintro e w6 ⟨A6,rfl,P6,i6,K6,u6,z6⟩;have b6:=K6.toBelow (Nat.le_refl _) (λi _ f=>f);have HS6:=zH<|(HS5.out.below b6).more
     clear P6 i6 K6 u6 z6 b6 r0 r1 r2;have r0:w6.cell? ⟨Bl,6,none⟩=some (.pointer none):=za HS6.out.pl.ql 6;have r1:w6.cell? ⟨Bl,7,none⟩=some (.pointer none):=za HS6.out.pl.ql 7;have r2:w6.cell? ⟨Bl,8,none⟩=some (.pointer none):=za HS6.out.pl.ql 8;go_wp2_with fail;go_at_call 27;refine(zf8 (O:=none) (x:=none) (y:=none) (s:=none) ⟨rfl,rfl,rfl⟩).mono ?_;rintro e w7 ⟨rfl,b7⟩;have HS7:=zH<|HS6.out.below b7
     clear b7 r0 r1 r2;go_wp2_with fail;exact⟨⟨3,_,_,_,by omega,by simp,HS7.out⟩,by simp[intOf]⟩
    ·have HB:=zH HSc.out.pl.bel;go_wp2_with fail;go_ret;exact⟨rfl,HB.out⟩
end
section
set_option maxRecDepth 100000
open Go.RowKit
attribute [local go_sem ↓] Go.wp_at_zero Go.wp_at_succ
def zwq:Ca:=⟨3,0,1,3,1,0,0,⟨#[]⟩,Pn.plain⟩
def ziA:List Wn:=zY zkb 1 (λu=>{u with x:=3,y:=1})
theorem zw7:ZR ziA (λn=>if n=0 then 0 else 1) 1:=by
 refine⟨⟨Zd 4 2,[{exW with G:=exG,x:=3,y:=1}],rfl,rfl,rfl,λv hv=>?_⟩,by decide,λv hv hp=>?_,λv hv=>?_⟩
 ·obtain rfl:v={exW with G:=exG,x:=3,y:=1}:=by simpa using hv
  exact⟨by decide,by decide⟩
 ·have hv':v=Zd 4 2\/v={exW with G:=exG,x:=3,y:=1}:=by simpa[ziA,zkb,zY,zin,Zd,exW] using hv
  rcases hv' with rfl|rfl
  ·exact absurd hp (by decide)
  ·exact⟨⟨Zd 4 2,by simp[ziA,zkb,zY,zin,Zd,exW],rfl⟩,by decide⟩
 ·split<;>omega
theorem zu5:zcx ziA 1 (Zd 4 2) 3 1=⟨120,0,Pn.plain⟩:=by rfl
structure zea (w:World) (D:Dv) (L':List Wn) (D':Dv) (w':World):Prop where
 L:D'.L=L'
 i:DvI D'
 P:ZP w D D' w'
theorem Tt.exI {fx fy:Nat} {a:Option Addr->Array Value} {L':List Wn} {last':Int} {r:Value} {c:Int} {w:World} {D:Dv} (h:zc2 w D) (hi:DvI D) (T:Tt fx fy a D.L D.last L' last' r c id) (wA:World) (b:Below w.heap.size w wA):zb0 fx fy a D.xp D.yp wA r D.own λw2=>∃D',D'.last=last'/\zea wA D L' D' w2:=by
 refine Calls.mono (T.pair (h.below b)) ?_;rintro e w1 ⟨rfl,k1,hy⟩;refine⟨rfl,k1,hy.mono ?_⟩;rintro e w2 ⟨rfl,k2,D',e1,e2,⟨e3,e4,e5⟩,P⟩;refine⟨rfl,k2,D',e2,e1,⟨?_,?_,?_,?_,?_⟩,P⟩
 ·rw[e3,e5];exact hi.1
 ·rw[e3,e4];exact hi.2.1
 ·rw[e5];exact hi.2.2.fl
 ·rw[e1];exact T.pens hi.2.2.pens
 ·rw[e1,e5];exact T.fit D.q hi.2.2.fit
theorem zwr {w:World} {D:Dv} (h:zc2 w D) (hi:DvI D) (hL:D.L=[Zd 4 2]) (hl:D.last=0):
 Calls Tryz.prog 10 #[.agg (zaE D.xp D.yp D.sp),zwp.agg] w λe w'=>e=.returned (.bool true)/\∃D',zea w D zin D' w':=by
 have ok:=h.ok;rw[hL,hl] at ok;have T:Tt 48 96 (λp=>#[.pointer p,.int .i64 0,.int .i64 1,.int .i64 0,.int .i64 2,.int .i64 1]) D.L D.last zin 1 (.tuple #[.int .i64 1,.int .i64 0]) 0 id:=by
  rw[hL,hl];exact zgN ok (Int.le_refl 0) (by omega) (Zd 4 2) (by simp) 1 0 2 1 (by decide) (by decide) (by decide)
 refine(zfo zwp (by decide) (by decide) (by decide) (by decide) (by decide) (by decide) (Q:=λwA w'=>∃D',zea wA D zin D' w') (λwA b=>?_)).mono ?_
 ·have hA:=h.below b;refine(zaz 1 0 0 1 0 2 1 ⟨#[]⟩ Pn.plain (.inl ⟨rfl,rfl,rfl,rfl,rfl,_,_,rfl⟩) (O:=D.own) (Q:=λwA w'=>∃D',D'.last=1/\zea wA D zin D' w') (λi hi=>hA.lt hi) (λwB q=>T.exI hA hi wB q)).mono ?_;rintro e w' ⟨rfl,wB,q,D',_,X⟩;exact⟨rfl,D',X.L,X.i,X.P.after q⟩
 ·rintro e w' ⟨rfl,wA,q,D',X⟩;exact⟨rfl,D',X.L,X.i,X.P.after q⟩
theorem zws {w:World} {D:Dv} (h:zc2 w D) (hi:DvI D) (hL:D.L=zin):
 Calls Tryz.prog 10 #[.agg (zaE D.xp D.yp D.sp),zw6.agg] w λe w'=>e=.returned (.bool true)/\∃D',zea w D zkb D' w':=by
 have ok:=h.ok;rw[hL] at ok;have T:Tt 31 32 (λq=>#[.pointer q,.int .i64 1,.int .i64 0,.int .i64 0,.string ⟨#[120,121]⟩,Pn.plain.agg]) D.L D.last zkb D.last (.int .i64 0) 0 id:=by
  rw[hL];exact zhW ok exW (by simp[zin]) 0 0 (by decide) ⟨#[120,121]⟩ (by decide) Pn.plain (by decide)
 refine(zaz 8 0 1 0 0 0 0 ⟨#[120,121]⟩ Pn.plain (.inr (.inr (.inr (.inr (.inr (.inr (.inr (.inl ⟨rfl,rfl,rfl,rfl,rfl,_,rfl⟩)))))))) (O:=D.own) (Q:=λwA w'=>∃D',D'.last=D.last/\zea wA D zkb D' w') (λi hi=>h.lt hi) (λwB q=>T.exI h hi wB q)).mono ?_;rintro e w' ⟨rfl,wB,q,D',_,X⟩;exact⟨rfl,D',X.L,X.i,X.P.after q⟩
theorem zpq {L:List Wn} {last:Int} (ok:ZK L last) (v:Wn) (hv:v∈L) (h0:v.n≠0) (hp:v.par≠-1) (x y:Int) (hpl:Zt x y=true):Tt 50 98 (λp=>#[.pointer p,.int .i64 v.n,.int .i64 x,.int .i64 y]) L last (zY L v.n (λu=>{u with x:=x,y:=y})) last (.int .i64 0) 0 id:=by
 obtain⟨rk,K,T⟩:=ok.tree;obtain⟨j,hj,hne,_⟩:=zfk T.nd hv;have j0:j≠0:=λe=>by
  obtain⟨r,t,eL,e0,_,_⟩:=T.head;rw[e,eL] at hj;obtain rfl:r=v:=by simpa using hj
  exact h0 e0
 exact .yes (zdi ok (λ_ _ e=>e) (λ_ _ _=>rfl) (λu hu _=>zbH.1 hpl)) ⟨Int.le_refl _,by omega⟩ (λp=>p.upd _ (λu hu _=>p u hu)) (λ_ _ q=>q.upd _ (λ_ _ _ e=>⟨e,rfl,rfl⟩)) (λw M N s t h=>ztF ok w h v hv hp x y hpl) (λw R h=>zqa ok w h v j hj hne j0 x y hpl)
theorem zwt {w:World} {D:Dv} (h:zc2 w D) (hi:DvI D) (hL:D.L=zkb):
 Calls Tryz.prog 10 #[.agg (zaE D.xp D.yp D.sp),zwq.agg] w λe w'=>e=.returned (.bool true)/\∃D',zea w D ziA D' w':=by
 have ok:=h.ok;rw[hL] at ok;have T:Tt 50 98 (λp=>#[.pointer p,.int .i64 1,.int .i64 3,.int .i64 1]) D.L D.last ziA D.last (.int .i64 0) 0 id:=by
  rw[hL];exact zpq ok {exW with G:=exG} (by simp[zkb,zY,zin,Zd,exW]) (by decide) (by decide) 3 1 (by decide)
 refine(zfo zwq (by decide) (by decide) (by decide) (by decide) (by decide) (by decide) (Q:=λwA w'=>∃D',zea wA D ziA D' w') (λwA b=>?_)).mono ?_
 ·have hA:=h.below b;refine(zaz 3 0 1 3 1 0 0 ⟨#[]⟩ Pn.plain (.inr (.inr (.inl ⟨rfl,rfl,rfl,rfl,rfl,_,rfl⟩))) (O:=D.own) (Q:=λwA w'=>∃D',D'.last=D.last/\zea wA D ziA D' w') (λi hi=>hA.lt hi) (λwB q=>T.exI hA hi wB q)).mono ?_;rintro e w' ⟨rfl,wB,q,D',_,X⟩;exact⟨rfl,D',X.L,X.i,X.P.after q⟩
 ·rintro e w' ⟨rfl,wA,q,D',X⟩;exact⟨rfl,D',X.L,X.i,X.P.after q⟩
end
section
open Go.RowKit
attribute [local go_sem ↓] Go.wp_at_zero Go.wp_at_succ
theorem zu6 {w w':World} {D D':Dv} (h:ZP w D D' w') {n:Nat} (hn:n<=w.heap.size) (hD:∀i,D.own i->n<=i):Below n w w':=h.keep.toBelow hn (λi hi q=>by have:=hD i q;omega)
structure ztm (w0:World) (Bd:Nat) (x y s:Option Addr) (L:List Wn) (D:Dv) (w:World):Prop where
 dv:zc2 w D
 i:DvI D
 L:D.L=L
 p:D.xp=x/\D.yp=y/\D.sp=s
 own:∀i,D.own i->w0.heap.size<=i/\i≠Bd
 box:zeA w Bd x y s
 bel:Below w0.heap.size w0 w
theorem ztm.step {w0 w w':World} {Bd:Nat} {x y s:Option Addr} {L L':List Wn} {D D':Dv} (h:ztm w0 Bd x y s L D w) (P:ZP w D D' w') (hi:DvI D') (hL:D'.L=L'):ztm w0 Bd x y s L' D' w':=by
 have hb:=h.box.lt;have hs:=h.bel.size;refine⟨P.dv,hi,hL,⟨P.xp.trans h.p.1,P.yp.trans h.p.2.1,P.sp.trans h.p.2.2⟩,λi hi=>?_,h.box.keep P.keep (λq=>(h.own _ q).2 rfl),h.bel.trans (zu6 P hs (λi q=>(h.own i q).1))⟩;rcases P.own i hi with q|q
 ·exact h.own i q
 ·omega
theorem zrD (w:World) (hw:2<=w.heap.size) (tab:ZY w):
 Calls Tryz.prog 12 #[] w λe w'=>e=.returned (.bool true)/\Below w.heap.size w w':=by
 have HT:=zH tab;clear tab;go_in;go_wp2_with fail;go_at_call 9;refine(zgS 4 2 _ (by decide) (by omega)).mono ?_;rintro e w2 ⟨D,rfl,hD,hL,hl,b2,hu,hi⟩;have HD:Hid (zc2 w2 D/\(∀i,D.own i->w.heap.size<=i)/\D.L=[Zd 4 2]/\D.last=0/\DvI D/\Below w.heap.size w w2):=⟨hD,hu,hL,hl,hi,b2⟩;clear hD hu hL hl hi b2;go_wp2_with fail;generalize hw3:w2.alloc _=w3;have HE:Hid (ztm w w2.heap.size D.xp D.yp D.sp [Zd 4 2] D w3):=by
  obtain⟨q1,q2,q3,q4,q5,q6⟩:=HD.out;have b3:Below w2.heap.size w2 w3:=by rw[←hw3];exact(Below.refl _ _).alloc (Nat.le_refl _) _
  exact⟨q1.below b3,q5,q3,⟨rfl,rfl,rfl⟩,λi hi=>⟨q2 i hi,by have:=q1.lt hi;omega⟩,by show _=_;rw[←hw3];exact zf w2 _,q6.trans (b3.mono q6.size)⟩
 have Hl:=zH HD.out.2.2.2.1;generalize w2.heap.size=Bd at *;obtain⟨px,hpx⟩:∃px,D.xp=px:=⟨_,rfl⟩;obtain⟨py,hpy⟩:∃py,D.yp=py:=⟨_,rfl⟩;obtain⟨ps,hps⟩:∃ps,D.sp=ps:=⟨_,rfl⟩;rw[hpx,hpy,hps] at HE;try rw[hpx,hpy,hps]
 clear hw3 HD hpx hpy hps;have hcall:=zwr HE.out.dv HE.out.i HE.out.L Hl.out;rw[HE.out.p.1,HE.out.p.2.1,HE.out.p.2.2] at hcall;go_at_call 10;refine hcall.mono ?_;clear hcall;rintro e w4 ⟨rfl,D4,X4⟩;have H4:=zH<|HE.out.step X4.P X4.i X4.L
 clear X4;obtain⟨d0,d1,d2⟩:=H4.out.box.cells;go_wp2_with fail;have hcall:=zws H4.out.dv H4.out.i H4.out.L;rw[H4.out.p.1,H4.out.p.2.1,H4.out.p.2.2] at hcall;go_at_call 10;refine hcall.mono ?_;clear hcall d0 d1 d2;rintro e w5 ⟨rfl,D5,X5⟩;have H5:=zH<|H4.out.step X5.P X5.i X5.L
 clear X5;obtain⟨d0,d1,d2⟩:=H5.out.box.cells;go_wp2_with fail;have hcall:=zka H5.out.dv H5.out.i (HT.out.below H5.out.bel);rw[H5.out.p.1,H5.out.p.2.1,H5.out.p.2.2] at hcall;go_at_call 28;refine hcall.mono ?_;clear hcall d0 d1 d2;rintro e w6 ⟨rfl,D6,P6,i6,l6,_⟩;have H6:=zH<|H5.out.step P6 i6 (l6.trans H5.out.L)
 clear P6 i6 l6;obtain⟨d0,d1,d2⟩:=H6.out.box.cells;go_wp2_with fail;have hcall:=zwt H6.out.dv H6.out.i H6.out.L;rw[H6.out.p.1,H6.out.p.2.1,H6.out.p.2.2] at hcall;go_at_call 10;refine hcall.mono ?_;clear hcall d0 d1 d2;rintro e w7 ⟨rfl,D7,X7⟩;have H7:=zH<|H6.out.step X7.P X7.i X7.L
 clear X7;obtain⟨d0,d1,d2⟩:=H7.out.box.cells;go_wp2_with fail;have hcall:=zka H7.out.dv H7.out.i (HT.out.below H7.out.bel);rw[H7.out.p.1,H7.out.p.2.1,H7.out.p.2.2] at hcall;go_at_call 28;refine hcall.mono ?_;clear hcall d0 d1 d2;rintro e w8 ⟨rfl,D8,P8,i8,l8,_⟩;have H8:=zH<|H7.out.step P8 i8 (l8.trans H7.out.L)
 clear P8 i8 l8;obtain⟨d0,d1,d2⟩:=H8.out.box.cells;have Hcell:Hid (Calls Tryz.prog 11 #[.pointer px,.int .i64 3,.int .i64 1] w8 λe w'=>e=.returned (.tuple #[zk.agg ⟨120,0,Pn.plain⟩,.int .i64 0])/\Below w8.heap.size w8 w'):=by
  have hok:=H8.out.dv.ok;have hx:=H8.out.dv.x;rw[H8.out.L] at hok hx;have hc:=ztB zw7 hok w8 hx (Zd 4 2) (by simp[ziA,zkb,zY,zin,Zd,exW]) rfl 3 1 (by decide) (by decide);have hxp:(some ⟨D8.M.t 0,0,none⟩:Option Addr)=px:=H8.out.p.1;rw[hxp,show zcx ziA 1 (Zd 4 2) ((3:Nat):Int) ((1:Nat):Int)=⟨120,0,Pn.plain⟩ from zu5] at hc;exact hc
 have HB8:=zH H8.out.bel;go_wp2_with fail;go_at_call 11;refine Hcell.out.mono ?_;rintro e w9 ⟨rfl,b9⟩;have HB:=zH<|HB8.out.trans (b9.mono HB8.out.size)
 clear d0 d1 d2 b9 Hcell;dsimp only[zk.agg,Pn.plain];go_wp2_with fail;go_ret;refine⟨?_,?_⟩
 ·first|rfl|simp
 ·first|exact HB.out.trans (((Below.refl _ _).alloc (Nat.le_refl _) _).mono HB.out.size)|exact HB.out
theorem zrE (x y v u:Int) (a:Option Addr) (n cap:Nat) (cs:List Ca) (w:World) (hw:2<=w.heap.size) (hF:zgR w a n cs) (tab:ZY w) (hn:n<=9223372036854775807):
 Calls Tryz.prog 4 #[.int .i64 x,.int .i64 y,.int .i64 v,.int .i64 u,.slice a n cap] w λe w'=>e=.returned (.bool true)/\Below w.heap.size w w':=by
 have HF:Hid (zgR w a n cs/\ZY w):=⟨hF,tab⟩;clear hF tab;go_in;go_wp2_with fail;go_at_call 8;refine(ztl x y v u a n cap cs _ hw HF.out.1 HF.out.2 hn).mono ?_;rintro e w1 ⟨rfl,b1⟩;have HB:=zH b1;have hs1:=b1.size;clear b1;go_wp2_with fail;go_at_call 12;refine(zrD w1 (by omega) (HF.out.2.below HB.out)).mono ?_;rintro e w2 ⟨rfl,b2⟩;have HB2:=zH<|HB.out.trans (b2.mono HB.out.size)
 clear b2;go_wp2_with fail;go_ret;exact⟨rfl,HB2.out⟩
end
end Go.Proofs.YtjlfibhbfdckpaaGreatDoor
