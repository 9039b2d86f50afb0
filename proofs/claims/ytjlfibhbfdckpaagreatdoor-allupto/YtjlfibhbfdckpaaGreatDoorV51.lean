import Derived.Test.YtjlfibhbfdckpaaGreatDoorV50
namespace Go.Proofs.YtjlfibhbfdckpaaGreatDoor
set_option maxHeartbeats 64000000
set_option maxRecDepth 100000
section
open Go.RowKit
attribute [local go_sem ↓] Go.wp_at_zero Go.wp_at_succ
theorem zrH (c:Int) (n:Nat) (w:World) (hn:0<n) (hn2:(n:Int)<=9223372036854775807) (c0:-9223372036854775808<=c) (c1:c<=9223372036854775807):
 Calls Tryz.prog 26 #[.int .i64 c,.int .i64 n] w λe w'=>e=.returned (.int .i64 (zei c n))/\w'=w:=by
 have n0:¬(n:Int)=0:=by omega
 have n0':((n:Int)==0)=false:=by simp;omega
 have lt:=zfX c hn;by_cases hc:c<0
 ·have e:=zjo hn hc;go_in;go_wp2;go_ret;exact⟨rfl,rfl⟩
 ·have e:=zjn hn hc;go_in;go_wp2;go_ret;exact⟨rfl,rfl⟩
def zcB (B:Option (Bk × Rs)) (i:Nat):Prop:=match B with
 |none=>False
 |some (k,_)=>i=k.pc\/i=k.bs\/i=k.bg\/i=k.g\/i=k.rs\/i=k.rc\/i=k.rg
def zlJ (B:Option (Bk × Rs)):Prop:=match B with
 |none=>True
 |some (k,_)=>(∀i,(i=k.pc\/i=k.bs\/i=k.bg\/i=k.g)->¬(i=k.rs\/i=k.rc\/i=k.rg))/\2<=k.rs/\2<=k.rc/\2<=k.rg
def zlK (B:Option (Bk × Rs)):Nat:=match B with
 |none=>0
 |some (_,s)=>s.B.size
theorem ZN.keep {F:Nat->Prop} {w w':World} {B:Option (Bk × Rs)} {x y:Option Addr} (h:ZN w B x y) (k:zd F w w') (d:∀i,zcB B i->¬F i):ZN w' B x y:=by
 cases B with
 |none=>exact h
 |some q=>
  obtain⟨h1,h2,h3,h4,h5⟩:=h;exact⟨h1,h2,h3.keep k (d _ (by simp[zcB])) (d _ (by simp[zcB])) (d _ (by simp[zcB])) (d _ (by simp[zcB])),h4.keep k (d _ (by simp[zcB])) (d _ (by simp[zcB])) (d _ (by simp[zcB])),h5⟩
theorem ZN.lt {w:World} {B:Option (Bk × Rs)} {x y:Option Addr} (h:ZN w B x y) {i:Nat} (hi:zcB B i):i<w.heap.size:=by
 cases B with
 |none=>cases hi
 |some q=>
  obtain⟨h1,h2,h3,h4,h5⟩:=h;obtain⟨t,P,_⟩:=h3.pr;rcases hi with e|e|e|e|e|e|e<;>subst e
  ·exact h3.lt
  ·exact P.lt
  ·exact P.gr.lt
  ·exact P.gr.glt
  ·exact h4.lt
  ·exact h4.cels.lt
  ·exact h4.cels.glt
theorem zf1 {w:World} {B:Option (Bk × Rs)} {x y:Option Addr} (h:ZN w B x y) (hs:zlJ B) (T:ZY w) (on sz W H lk:Int) (tx:ByteArray) (hb:zlK B+tx.size<=100000000000):
 Calls Tryz.prog 67 #[.agg #[.pointer x,.pointer y],zeb on sz W H lk tx] w λe w'=>∃B',e=.returned (.bool true)/\ZN w' B' x y/\zlJ B'/\zd (zcB B) w w'/\(∀i,zcB B' i->zcB B i\/w.heap.size<=i)/\zlK B'<=zlK B+tx.size:=by
 cases B with
 |none=>
  obtain⟨rfl,rfl⟩:=h;have fin:(Calls Tryz.prog 67 #[.agg #[.pointer none,.pointer none],zeb on sz W H lk tx] w λe w'=>e=.returned (.bool true)/\Below w.heap.size w w'):=by
   exact zrG on sz W H lk tx w
  refine fin.mono ?_;rintro e w' ⟨rfl,b⟩;exact⟨none,rfl,⟨rfl,rfl⟩,trivial,zd.below _ b,λi hi=>False.elim hi,Nat.zero_le _⟩
 |some q=>
  obtain⟨⟨pc,bs,bg,g,N,rs,rc,rg,cap,M⟩,s⟩:=q;obtain⟨rfl,rfl,C,R,hB⟩:=h;obtain⟨hsep,hr⟩:=hs;dsimp only at C R hB hsep hr;have fin:(Calls Tryz.prog 67 #[.agg #[.pointer (some ⟨pc,0,none⟩),.pointer (some ⟨rs,0,none⟩)],zeb on sz W H lk tx] w (znI pc bs bg g rs rc rg s tx w)):=by
   cases hz:(sz.tmod 2==0) with
   |true=>exact zvi pc bs bg g N rs rc rg cap M s on sz W H lk tx w C R hB T hsep hr hz hb
   |false=>cases hw:ZC W H with
    |false=>exact zvj pc bs bg g N rs rc rg cap M s on sz W H lk tx w C R hB T hsep hr hz hw hb
    |true=>
     obtain⟨a1,a2,a3,a4⟩:=Zs.1 hw;obtain⟨W,rfl⟩:=Int.eq_ofNat_of_zero_le (show 0<=W by omega);obtain⟨H,rfl⟩:=Int.eq_ofNat_of_zero_le (show 0<=H by omega);exact zvk pc bs bg g N rs rc rg cap M s on sz W H lk tx w C R hB T hsep hr hz (by omega) (by omega) (by omega) (by omega) hb
  have hlt:∀i,(i=pc\/i=bs\/i=bg\/i=g\/i=rs\/i=rc\/i=rg)->i<w.heap.size:=λi hi=>
   ZN.lt (B:=some (⟨pc,bs,bg,g,N,rs,rc,rg,cap,M⟩,s)) (x:=some ⟨pc,0,none⟩) (y:=some ⟨rs,0,none⟩) ⟨rfl,rfl,C,R,hB⟩ hi
  refine fin.mono ?_;rintro e w' ⟨g',N',rg',cap',M',s',rfl,C',R',hB',K',hg,hrg,hne,hsz⟩;have l1:=hlt pc (by omega);have l2:=hlt bs (by omega);have l3:=hlt bg (by omega);have l4:=hlt g (by omega);have l5:=hlt rs (by omega);have l6:=hlt rc (by omega);have l7:=hlt rg (by omega);refine⟨some (⟨pc,bs,bg,g',N',rs,rc,rg',cap',M'⟩,s'),rfl,⟨rfl,rfl,C',R',hB'⟩,⟨?_,hr.1,hr.2.1,?_⟩,K'.mono (λi hi=>?_),?_,hsz⟩
  ·intro i hi;show¬(i=rs\/i=rc\/i=rg');rcases hi with e|e|e|e
   ·subst e;exact zgt (hsep _ (Or.inl rfl)) hrg l1
   ·subst e;exact zgt (hsep _ (Or.inr (Or.inl rfl))) hrg l2
   ·subst e;exact zgt (hsep _ (Or.inr (Or.inr (Or.inl rfl)))) hrg l3
   ·subst e;exact zvg (hsep _ (Or.inr (Or.inr (Or.inr rfl)))) hg l5 l6 hne
  ·show 2<=rg';have:=hr.2.2;omega
  ·show i=pc\/i=bs\/i=bg\/i=g\/i=rs\/i=rc\/i=rg;omega
  ·intro i hi;show(i=pc\/i=bs\/i=bg\/i=g\/i=rs\/i=rc\/i=rg)\/w.heap.size<=i;have hi':i=pc\/i=bs\/i=bg\/i=g'\/i=rs\/i=rc\/i=rg':=hi;omega
theorem zpr (x y:Int) (w:World) (hs:ZC x y=false):
 Calls Tryz.prog 66 #[.int .i64 x,.int .i64 y] w λe w'=>e=.returned (.tuple #[.agg #[.pointer none,.pointer none],.bool true])/\Below w.heap.size w w':=by
 go_in;go_wp2_with (first|(go_at_call 45;refine sM (zuX _ _ _ hs) ?_)|(go_at_call 30;refine sM (zp9 _ _ _ hs) ?_));exact bodyPost_ret (v:=.tuple #[.agg #[.pointer none,.pointer none],.bool true]) (by simp[results,Tryz.results66,go_sem]) rfl ⟨rfl,(Below.refl _ _).alloc (Nat.le_refl _) _⟩
theorem zm3 (W H:Nat) (w:World) (w1:1<=W) (w2:W<=40) (h1:1<=H) (h2:H<=20) (hw:2<=w.heap.size):
 Calls Tryz.prog 66 #[.int .i64 W,.int .i64 H] w λe w'=>∃k px py,e=.returned (.tuple #[.agg #[.pointer px,.pointer py],.bool true])/\ZN w' (some (k,zfh W H)) px py/\zlJ (some (k,zfh W H))/\Below w.heap.size w w'/\(∀i,zcB (some (k,zfh W H)) i->w.heap.size<=i):=by
 go_in;go_wp2_with fail;go_at_call 45;refine(zte W H _ w1 w2 h1 h2 (by rw[size_alloc];omega)).mono ?_;rintro e wa ⟨pc,bs,bg,g,rfl,C1,b1,p0,p1,p2,p3⟩;rw[size_alloc] at b1 p0 p1 p2 p3;have c0:wa.cell? ⟨w.heap.size,0,none⟩=some (.pointer none):=by rw[b1.cells (by omega),za (zf w _)];rfl
 have c1:wa.cell? ⟨w.heap.size,1,none⟩=some (.pointer none):=by rw[b1.cells (by omega),za (zf w _)];rfl
 have fz:∀o,wa.frozen? ⟨w.heap.size,o,none⟩=false:=λo=>by rw[b1.marks (by omega),ze (zf w _)]
 have HB:=zH<|((Below.refl _ _).alloc (Nat.le_refl _) _).trans (b1.mono (by omega))
 have hsz:w.heap.size+1<=wa.heap.size:=by have:=b1.size;rwa [size_alloc] at this
 have HC:=zH C1;have Hlt:Hid (pc<wa.heap.size/\bs<wa.heap.size/\bg<wa.heap.size/\g<wa.heap.size):=by obtain⟨t,P,_⟩:=C1.pr;exact⟨C1.lt,P.lt,P.gr.lt,P.gr.glt⟩
 clear C1 b1;go_wp2_with fail;go_at_call 30;refine(ziU W H _ w1 w2 h1 h2).mono ?_;rintro e wb ⟨rs,rc,rg,cap,rfl,r1,r2,r3,R1,b2⟩;replace HC:=zH<|HC.out.below b2
 have HR:=zH R1;replace HB:=zH<|HB.out.trans (b2.mono (by omega))
 replace c0:wb.cell? ⟨w.heap.size,0,none⟩=some (.pointer none):=by rw[b2.cells (by omega)];exact c0
 replace c1:wb.cell? ⟨w.heap.size,1,none⟩=some (.pointer none):=by rw[b2.cells (by omega)];exact c1
 replace fz:∀o,wb.frozen? ⟨w.heap.size,o,none⟩=false:=λo=>by rw[b2.marks (by omega)];exact fz o
 have hsb:=b2.size;have hlw:w.heap.size<wb.heap.size:=by omega
 clear b2 R1;go_wp2_with fail;have K:zd (λi=>i=w.heap.size) wb ((wb.setCell ⟨w.heap.size,0,none⟩ (.pointer (some ⟨pc,0,none⟩))).setCell ⟨w.heap.size,1,none⟩ (.pointer (some ⟨rs,0,none⟩))):=((zd.refl (λi=>i=w.heap.size) wb).setCell ⟨w.heap.size,0,none⟩ _ (λ_=>rfl)).setCell ⟨w.heap.size,1,none⟩ _ (λ_=>rfl);have hl:=Hlt.out;refine bodyPost_ret (v:=.tuple #[.agg #[.pointer (some ⟨pc,0,none⟩),.pointer (some ⟨rs,0,none⟩)],.bool true]) (by simp[results,Tryz.results66,go_sem,c0,c1]) rfl ⟨⟨pc,bs,bg,g,H*W,rs,rc,rg,cap,H*W⟩,_,_,rfl,⟨rfl,rfl,HC.out.keep K (by omega) (by omega) (by omega) (by omega),HR.out.keep K (by omega) (by omega) (by omega),zcm⟩,⟨λi hi=>?_,?_⟩,HB.out.trans (K.toBelow (by omega) (λi hi=>by omega)),λi hi=>?_⟩
 ·show¬(i=rs\/i=rc\/i=rg);have hi':i=pc\/i=bs\/i=bg\/i=g:=hi;omega
 ·show 2<=rs/\2<=rc/\2<=rg;omega
 ·have hi':i=pc\/i=bs\/i=bg\/i=g\/i=rs\/i=rc\/i=rg:=hi;omega
theorem zkd (x y:Int) (w:World) (hw:2<=w.heap.size):
 Calls Tryz.prog 66 #[.int .i64 x,.int .i64 y] w λe w'=>∃B px py,e=.returned (.tuple #[.agg #[.pointer px,.pointer py],.bool true])/\ZN w' B px py/\zlJ B/\Below w.heap.size w w'/\(∀i,zcB B i->w.heap.size<=i)/\zlK B=0:=by
 cases hs:ZC x y with
 |false=>
  refine(zpr x y w hs).mono ?_;rintro e w' ⟨rfl,b⟩;exact⟨none,none,none,rfl,⟨rfl,rfl⟩,trivial,b,λi hi=>False.elim hi,rfl⟩
 |true=>
  obtain⟨a1,a2,a3,a4⟩:=Zs.1 hs;obtain⟨W,rfl⟩:=Int.eq_ofNat_of_zero_le (show 0<=x by omega);obtain⟨H,rfl⟩:=Int.eq_ofNat_of_zero_le (show 0<=y by omega);refine(zm3 W H w (by omega) (by omega) (by omega) (by omega) hw).mono ?_;rintro e w' ⟨k,px,py,rfl,P,S,b,u⟩;exact⟨some (k,zfh W H),px,py,rfl,P,S,b,u,rfl⟩
structure FdS where
 on:Int
 sz:Int
 W:Int
 H:Int
 lk:Int
 tx:ByteArray
def zcl:FdS:=⟨0,0,0,0,0,ByteArray.empty⟩
def zlL (w:World) (a:Option Addr) (n:Nat) (fs:List FdS):Prop:=
 ∀k,k<n->∃b off,a=some ⟨b,off,none⟩/\b<w.heap.size/\w.cell? ⟨b,off+k*6,none⟩=some (.int .i64 (fs.getD k zcl).on)/\w.cell? ⟨b,off+k*6+1,none⟩=some (.int .i64 (fs.getD k zcl).sz)/\w.cell? ⟨b,off+k*6+2,none⟩=some (.int .i64 (fs.getD k zcl).W)/\w.cell? ⟨b,off+k*6+3,none⟩=some (.int .i64 (fs.getD k zcl).H)/\w.cell? ⟨b,off+k*6+4,none⟩=some (.int .i64 (fs.getD k zcl).lk)/\w.cell? ⟨b,off+k*6+5,none⟩=some (.string (fs.getD k zcl).tx)
  ∧ -9223372036854775808<=(fs.getD k zcl).on/\(fs.getD k zcl).on<=9223372036854775807
def zca (fs:List FdS) (k:Nat):Nat:=((fs.take k).map λf=>f.tx.size).sum
def ziB (w:World) (b:Nat) (xa ya xb yb:Option Addr):Prop:=w.heap[b]?=some (.cells #[.pointer xa,.pointer ya,.pointer xb,.pointer yb,.pointer none,.pointer none] 94)
theorem ziB.keep {F:Nat->Prop} {w w':World} {b:Nat} {xa ya xb yb:Option Addr} (h:ziB w b xa ya xb yb) (k:zd F w w') (hF:¬F b):ziB w' b xa ya xb yb:=by
 unfold ziB at *;rw[k.block _ (Array.getElem?_eq_some_iff.1 h).1 hF];exact h
theorem ziB.below {w w':World} {b:Nat} {xa ya xb yb:Option Addr} (h:ziB w b xa ya xb yb) (hb:Below w.heap.size w w'):ziB w' b xa ya xb yb:=h.keep (zd.below (λ_=>False) hb) id
theorem ziB.lt {w:World} {b:Nat} {xa ya xb yb:Option Addr} (h:ziB w b xa ya xb yb):b<w.heap.size:=(Array.getElem?_eq_some_iff.1 h).1
structure zdQ (w0:World) (Ba Bb Bl:Nat) (xa ya xb yb:Option Addr) (A Bq:Option (Bk × Rs)) (m:Nat) (w:World):Prop where
 pA:ZN w A xa ya
 pB:ZN w Bq xb yb
 sA:zlJ A
 sB:zlJ Bq
 dj:∀i,zcB A i->¬zcB Bq i
 uA:∀i,zcB A i->w0.heap.size<=i/\i≠Ba/\i≠Bb/\i≠Bl
 uB:∀i,zcB Bq i->w0.heap.size<=i/\i≠Ba/\i≠Bb/\i≠Bl
 zA:zlK A<=m
 zB:zlK Bq<=m
 bel:Below w0.heap.size w0 w
 qa:zda w Ba xa ya
 qb:zda w Bb xb yb
 ql:ziB w Bl xa ya xb yb
section
variable {w0 w w':World} {Ba Bb Bl m m':Nat} {xa ya xb yb:Option Addr} {A Bq A':Option (Bk × Rs)}
theorem zdQ.below (h:zdQ w0 Ba Bb Bl xa ya xb yb A Bq m w) (b:Below w.heap.size w w'):zdQ w0 Ba Bb Bl xa ya xb yb A Bq m w' :=
 ⟨h.pA.below b,h.pB.below b,h.sA,h.sB,h.dj,h.uA,h.uB,h.zA,h.zB,h.bel.trans (b.mono h.bel.size),h.qa.below b,h.qb.below b,h.ql.below b⟩
theorem zdQ.more (h:zdQ w0 Ba Bb Bl xa ya xb yb A Bq m w) (hm:m<=m'):zdQ w0 Ba Bb Bl xa ya xb yb A Bq m' w:=
 ⟨h.pA,h.pB,h.sA,h.sB,h.dj,h.uA,h.uB,Nat.le_trans h.zA hm,Nat.le_trans h.zB hm,h.bel,h.qa,h.qb,h.ql⟩
theorem zdQ.feedA (h:zdQ w0 Ba Bb Bl xa ya xb yb A Bq m w) (P:ZN w' A' xa ya) (S:zlJ A') (K:zd (zcB A) w w') (u:∀i,zcB A' i->zcB A i\/w.heap.size<=i) (hz:zlK A'<=m') (hm:m<=m'):zdQ w0 Ba Bb Bl xa ya xb yb A' Bq m' w':=by
 have la:=h.qa.lt;have lb:=h.qb.lt;have ll:=h.ql.lt;have sz:=h.bel.size;refine⟨P,h.pB.keep K (λi hi q=>h.dj i q hi),S,h.sB,λi hi q=>?_,λi hi=>?_,h.uB,hz,Nat.le_trans h.zB hm,h.bel.trans (K.toBelow sz (λi hi q=>?_)),h.qa.keep K (λq=>(h.uA _ q).2.1 rfl),h.qb.keep K (λq=>(h.uA _ q).2.2.1 rfl),h.ql.keep K (λq=>(h.uA _ q).2.2.2 rfl)⟩
 ·rcases u i hi with e|e
  ·exact h.dj i e q
  ·have:=h.pB.lt q;omega
 ·rcases u i hi with e|e
  ·exact h.uA i e
  ·exact⟨by omega,by omega,by omega,by omega⟩
 ·have:=(h.uA i q).1;omega
theorem zdQ.swap (h:zdQ w0 Ba Bb Bl xa ya xb yb A Bq m w) (P:ZN w' A' xb yb) (S:zlJ A') (K:zd (zcB Bq) w w') (u:∀i,zcB A' i->zcB Bq i\/w.heap.size<=i) (hz:zlK A'<=m') (hm:m<=m'):zdQ w0 Ba Bb Bl xa ya xb yb A A' m' w':=by
 have la:=h.qa.lt;have lb:=h.qb.lt;have ll:=h.ql.lt;have sz:=h.bel.size;refine⟨h.pA.keep K (λi hi q=>h.dj i hi q),P,h.sA,S,λi hi q=>?_,h.uA,λi hi=>?_,Nat.le_trans h.zA hm,hz,h.bel.trans (K.toBelow sz (λi hi q=>?_)),h.qa.keep K (λq=>(h.uB _ q).2.1 rfl),h.qb.keep K (λq=>(h.uB _ q).2.2.1 rfl),h.ql.keep K (λq=>(h.uB _ q).2.2.2 rfl)⟩
 ·rcases u i q with e|e
  ·exact h.dj i hi e
  ·have:=h.pA.lt hi;omega
 ·rcases u i hi with e|e
  ·exact h.uB i e
  ·exact⟨by omega,by omega,by omega,by omega⟩
 ·have:=(h.uB i q).1;omega
end
theorem zlM (fs:List FdS) (k:Nat):zca fs (k+1)=zca fs k+(fs.getD k zcl).tx.size:=by
 unfold zca;by_cases h:k<fs.length
 ·rw[List.take_succ_eq_append_getElem h,List.map_append,List.sum_append];congr 1;simp[List.getD_eq_getElem?_getD,h]
 ·rw[List.take_of_length_le (by omega),List.take_of_length_le (by omega)];simp[List.getD_eq_getElem?_getD,List.getElem?_eq_none (show fs.length<=k by omega),zcl]
theorem zrI (fs:List FdS) {k n:Nat} (h:k<=n):zca fs k<=zca fs n:=by
 induction n with
 |zero=>
   have:k=0:=by omega
   subst this;exact Nat.le_refl _
 |succ n ih=>
  rcases Nat.eq_or_lt_of_le h with e|e
  ·subst e;exact Nat.le_refl _
  ·rw[zlM];have:=ih (by omega);omega
theorem zrJ (x y v u:Int) (a:Option Addr) (n cap:Nat) (fs:List FdS) (w:World) (T:ZY w) (hw:2<=w.heap.size) (hF:zlL w a n fs) (hn:n<=9223372036854775807) (hsum:zca fs n<=10000000000):
 Calls Tryz.prog 25 #[.int .i64 x,.int .i64 y,.int .i64 v,.int .i64 u,.slice a n cap] w λe w'=>e=.returned (.bool true)/\Below w.heap.size w w':=by
 have HT:=zH T;have HF:=zH hF;have Hsum:=zH hsum;clear T hF hsum;go_in;go_wp2_with fail;go_at_call 66;refine(zkd x y _ hw).mono ?_;rintro e w1 ⟨A,xa,ya,rfl,PA,SA,b1,uA,zA⟩;have HPA:=zH PA;have HSA:=zH SA;have HuA:=zH uA;have HzA:=zH zA;have HB:=zH b1;clear PA SA uA zA b1;have HltA:Hid (∀i,zcB A i->i<w1.heap.size):=λi hi=>HPA.out.lt hi;have hs1:=HB.out.size;go_wp2_with fail;generalize hw2:w1.alloc _=w2;have b2:Below w1.heap.size w1 w2:=by rw[←hw2];exact(Below.refl _ _).alloc (Nat.le_refl _) _
 have HPa:Hid (zda w2 w1.heap.size xa ya):=by show _=_;rw[←hw2];exact zf w1 _
 replace HPA:=zH<|HPA.out.below b2
 replace HB:=zH<|HB.out.trans (b2.mono hs1)
 have hs2:=HPa.out.lt;generalize w1.heap.size=Ba at *;clear b2 hw2;go_at_call 66;refine(zkd v u _ (by omega)).mono ?_;rintro e w3 ⟨Bq,xb,yb,rfl,PB,SB,b3,uB,zB⟩;have HPB:=zH PB;have HSB:=zH SB;have HuB:=zH uB;have HltB:Hid (∀i,zcB Bq i->i<w3.heap.size):=λi hi=>PB.lt hi;have HzB:=zH zB;replace HPA:=zH<|HPA.out.below b3
 replace HPa:=zH<|HPa.out.below b3
 replace HB:=zH<|HB.out.trans (b3.mono (by omega))
 have hs3:=b3.size;generalize w2.heap.size=n2 at *;clear PB SB uB zB b3;have q0:=HPa.out.c0;have q1:=HPa.out.c1;have lqa:=HPa.out.lt;go_wp2_with fail;generalize hw4:World.alloc (w3.alloc _) _=w4;have b4:Below w3.heap.size w3 w4:=by rw[←hw4];exact((Below.refl _ _).alloc (Nat.le_refl _) _).alloc (by simp) _
 have HSc:Hid (zdQ w Ba w3.heap.size (w3.heap.size+1) xa ya xb yb A Bq 0 w4):=by
  refine⟨HPA.out.below b4,HPB.out.below b4,HSA.out,HSB.out,λi hi q=>?_,λi hi=>?_,λi hi=>?_,Nat.le_of_eq HzA.out,Nat.le_of_eq HzB.out,HB.out.trans (b4.mono (by omega)),HPa.out.below b4,?_,?_⟩
  ·have:=HltA.out i hi;have:=HuB.out i q;omega
  ·have:=HltA.out i hi;have:=HuA.out i hi;omega
  ·have:=HltB.out i hi;have:=HuB.out i hi;omega
  ·show _=_;rw[←hw4,Below.heap_alloc _ _ _ (by simp)];exact zf w3 _
  ·show _=_;rw[←hw4];have:=zf (w3.alloc (.cells #[.pointer xb,.pointer yb] 94)) (.cells #[.pointer xa,.pointer ya,.pointer xb,.pointer yb,.pointer none,.pointer none] 94);rwa [size_alloc] at this
 generalize w3.heap.size+1=Bl at *;generalize w3.heap.size=Bb at *;clear hw4 b4 q0 q1 lqa HPA HPB HSA HSB HzA HzB HB HPa HuA HuB HltA HltB;go_loopw[16] (λi w'=>∃(k:Nat) (A Bq:Option (Bk × Rs)),k<=n/\i=.int .i64 k/\zdQ w Ba Bb Bl xa ya xb yb A Bq (zca fs k) w') (λi _=>n-(intOf i).toNat)
 case atStart=>exact⟨0,A,Bq,by omega,rfl,HSc.out.more (Nat.zero_le _)⟩
 case round=>
  obtain⟨k,A,Bq,hk,rfl,hS⟩:=hrel;clear HSc;have HSc:=zH hS;by_cases hlt:k<n
  ·have hlt':(k:Int)<n:=by omega
   obtain⟨sb,so,rfl,sbl,s0,s1,s2,s3,s4,s5,o0,o1⟩:=HF.out k hlt;have hss:=zlM fs k;have hmono:=zrI fs (show k+1<=n by omega);have Hb:Hid (zca fs k+(fs.getD k zcl).tx.size<=10000000000):=by have:=Hsum.out;show _<=_;omega
   have Hss:=zH hss;replace s0:=(hS.bel.cells sbl _).trans s0;replace s1:=(hS.bel.cells sbl _).trans s1;replace s2:=(hS.bel.cells sbl _).trans s2;replace s3:=(hS.bel.cells sbl _).trans s3;replace s4:=(hS.bel.cells sbl _).trans s4;replace s5:=(hS.bel.cells sbl _).trans s5;generalize fs.getD k zcl=f at *;have lp:=zfX f.on (n:=3) (by omega);clear hS hss hmono;obtain⟨p,hp⟩:∃p,zei f.on 3=p:=⟨_,rfl⟩;rw[hp] at lp;have hcase:p=0\/p=1\/p=2:=by omega
   go_wp2_with fail;rcases hcase with rfl|rfl|rfl
   ·have r0:wr.cell? ⟨Bl,0,none⟩=some (.pointer xa):=za HSc.out.ql 0;have r1:wr.cell? ⟨Bl,1,none⟩=some (.pointer ya):=za HSc.out.ql 1;have HD:Hid (zdQ w Ba Bb Bl xa ya xb yb A Bq (zca fs k) wr.drew):=HSc.out.below (Zc wr 1);go_region_held3 (λw'=>w'.cell? ⟨sb,so+k*6,none⟩=some (.int .i64 f.on)/\w'.cell? ⟨sb,so+k*6+1,none⟩=some (.int .i64 f.sz)/\w'.cell? ⟨sb,so+k*6+2,none⟩=some (.int .i64 f.W)/\w'.cell? ⟨sb,so+k*6+3,none⟩=some (.int .i64 f.H)/\w'.cell? ⟨sb,so+k*6+4,none⟩=some (.int .i64 f.lk)/\w'.cell? ⟨sb,so+k*6+5,none⟩=some (.string f.tx)/\w'.cell? ⟨Bl,0,none⟩=some (.pointer xa)/\w'.cell? ⟨Bl,1,none⟩=some (.pointer ya)) (simp[*]) (first|(go_at_call 26;refine sM (zrH f.on 3 _ (by omega) (by omega) o0 o1) ?_;rw[hp])|(go_at_call 67;refine(zf1 HD.out.pA HD.out.sA (HT.out.below HD.out.bel) f.on f.sz f.W f.H f.lk f.tx (by have:=Hb.out;have:=HD.out.zA;omega)).mono ?_;rintro e w6 ⟨A6,rfl,P6,S6,K6,u6,z6⟩;have HS6:Hid (zdQ w Ba Bb Bl xa ya xb yb A6 Bq (zca fs (k+1)) w6):=HD.out.feedA P6 S6 K6 u6 (by rw[Hss.out];have:=HD.out.zA;omega) (by rw[Hss.out];omega);have e1:=λo=>(HS6.out.bel.cells sbl o).trans (HSc.out.bel.cells sbl o).symm;have e2:w6.cell? ⟨Bl,0,none⟩=some (.pointer xa):=za HS6.out.ql 0;have e3:w6.cell? ⟨Bl,1,none⟩=some (.pointer ya):=za HS6.out.ql 1));go_wp2_with fail;exact⟨⟨k+1,A6,Bq,by omega,by simp,HS6.out⟩,by simp only[intOf];omega⟩
   ·have r0:wr.cell? ⟨Bl,2,none⟩=some (.pointer xb):=za HSc.out.ql 2;have r1:wr.cell? ⟨Bl,3,none⟩=some (.pointer yb):=za HSc.out.ql 3;have HD:Hid (zdQ w Ba Bb Bl xa ya xb yb A Bq (zca fs k) wr.drew):=HSc.out.below (Zc wr 1);go_region_held3 (λw'=>w'.cell? ⟨sb,so+k*6,none⟩=some (.int .i64 f.on)/\w'.cell? ⟨sb,so+k*6+1,none⟩=some (.int .i64 f.sz)/\w'.cell? ⟨sb,so+k*6+2,none⟩=some (.int .i64 f.W)/\w'.cell? ⟨sb,so+k*6+3,none⟩=some (.int .i64 f.H)/\w'.cell? ⟨sb,so+k*6+4,none⟩=some (.int .i64 f.lk)/\w'.cell? ⟨sb,so+k*6+5,none⟩=some (.string f.tx)/\w'.cell? ⟨Bl,2,none⟩=some (.pointer xb)/\w'.cell? ⟨Bl,3,none⟩=some (.pointer yb)) (simp[*]) (first|(go_at_call 26;refine sM (zrH f.on 3 _ (by omega) (by omega) o0 o1) ?_;rw[hp])|(go_at_call 67;refine(zf1 HD.out.pB HD.out.sB (HT.out.below HD.out.bel) f.on f.sz f.W f.H f.lk f.tx (by have:=Hb.out;have:=HD.out.zB;omega)).mono ?_;rintro e w6 ⟨A6,rfl,P6,S6,K6,u6,z6⟩;have HS6:Hid (zdQ w Ba Bb Bl xa ya xb yb A A6 (zca fs (k+1)) w6):=HD.out.swap P6 S6 K6 u6 (by rw[Hss.out];have:=HD.out.zB;omega) (by rw[Hss.out];omega);have e1:=λo=>(HS6.out.bel.cells sbl o).trans (HSc.out.bel.cells sbl o).symm;have e2:w6.cell? ⟨Bl,2,none⟩=some (.pointer xb):=za HS6.out.ql 2;have e3:w6.cell? ⟨Bl,3,none⟩=some (.pointer yb):=za HS6.out.ql 3));go_wp2_with fail;exact⟨⟨k+1,A,A6,by omega,by simp,HS6.out⟩,by simp only[intOf];omega⟩
   ·have r0:wr.cell? ⟨Bl,4,none⟩=some (.pointer none):=za HSc.out.ql 4;have r1:wr.cell? ⟨Bl,5,none⟩=some (.pointer none):=za HSc.out.ql 5;have HD:Hid (zdQ w Ba Bb Bl xa ya xb yb A Bq (zca fs k) wr.drew):=HSc.out.below (Zc wr 1);go_region_held3 (λw'=>w'.cell? ⟨sb,so+k*6,none⟩=some (.int .i64 f.on)/\w'.cell? ⟨sb,so+k*6+1,none⟩=some (.int .i64 f.sz)/\w'.cell? ⟨sb,so+k*6+2,none⟩=some (.int .i64 f.W)/\w'.cell? ⟨sb,so+k*6+3,none⟩=some (.int .i64 f.H)/\w'.cell? ⟨sb,so+k*6+4,none⟩=some (.int .i64 f.lk)/\w'.cell? ⟨sb,so+k*6+5,none⟩=some (.string f.tx)/\w'.cell? ⟨Bl,4,none⟩=some (.pointer none)/\w'.cell? ⟨Bl,5,none⟩=some (.pointer none)) (simp[*]) (first|(go_at_call 26;refine sM (zrH f.on 3 _ (by omega) (by omega) o0 o1) ?_;rw[hp])|(go_at_call 67;refine(zf1 (show ZN _ none none none from⟨rfl,rfl⟩) trivial (HT.out.below HD.out.bel) f.on f.sz f.W f.H f.lk f.tx (by have:=Hb.out;show 0+_<=_;omega)).mono ?_;rintro e w6 ⟨A6,rfl,P6,S6,K6,u6,z6⟩;have HS6:Hid (zdQ w Ba Bb Bl xa ya xb yb A Bq (zca fs (k+1)) w6):=(HD.out.below (K6.toBelow (Nat.le_refl _) (λ_ _ q=>q))).more (by rw[Hss.out];omega);have e1:=λo=>(HS6.out.bel.cells sbl o).trans (HSc.out.bel.cells sbl o).symm;have e2:w6.cell? ⟨Bl,4,none⟩=some (.pointer none):=za HS6.out.ql 4;have e3:w6.cell? ⟨Bl,5,none⟩=some (.pointer none):=za HS6.out.ql 5));go_wp2_with fail;exact⟨⟨k+1,A,Bq,by omega,by simp,HS6.out⟩,by simp only[intOf];omega⟩
  ·have hlt':¬(k:Int)<n:=by omega
   have q0:=hS.qa.c0;have q1:=hS.qa.c1;clear hS;go_wp2_with fail;go_at_call 68;refine(zir HSc.out.pA).mono ?_;rintro e w5 ⟨rfl,b5⟩;replace HSc:=zH<|HSc.out.below b5
   clear b5 q0 q1;have q0:=HSc.out.qb.c0;have q1:=HSc.out.qb.c1;go_wp2_with fail;go_at_call 68;refine(zir HSc.out.pB).mono ?_;rintro e w6 ⟨rfl,b6⟩;replace HSc:=zH<|HSc.out.below b6
   clear b6 q0 q1;have q0:w6.cell? ⟨Bl,4,none⟩=some (.pointer none):=za HSc.out.ql 4;have q1:w6.cell? ⟨Bl,5,none⟩=some (.pointer none):=za HSc.out.ql 5;go_wp2_with fail;go_at_call 68;refine(zir (B:=none) (x:=none) (y:=none) ⟨rfl,rfl⟩).mono ?_;rintro e w7 ⟨rfl,b7⟩;have HB:=zH<|(HSc.out.below b7).bel
   have HT7:=zH<|HT.out.below HB.out
   have h7:=Nat.le_trans hw HB.out.size;have hs7:=HB.out.size;clear b7 q0 q1 HSc;go_wp2_with fail;go_at_call 66;refine(zkd 4 2 _ h7).mono ?_;rintro e w8 ⟨E,xe,ye,rfl,PE,SE,b8,uE,zE⟩;have HPE:=zH PE;have HSE:=zH SE;have HuE:=zH uE;have HzE:=zH zE;replace HB:=zH<|HB.out.trans (b8.mono HB.out.size)
   have HT8:=zH<|HT.out.below HB.out
   clear PE SE uE zE b8;go_wp2_with fail;generalize hw9:w8.alloc _=w9;have b9:Below w8.heap.size w8 w9:=by rw[←hw9];exact(Below.refl _ _).alloc (Nat.le_refl _) _
   replace HPE:=zH<|HPE.out.below b9
   replace HB:=zH<|HB.out.trans (b9.mono HB.out.size)
   replace HT8:=zH<|HT8.out.below b9
   clear b9 hw9;go_at_call 67;refine(zf1 HPE.out HSE.out HT8.out 0 0 0 0 1 ⟨#[97,98,99,100,88,13,228,184,173,27,91,50,68,120,27,91,49,59,51,49,59,52,52,109,33]⟩ (by rw[HzE.out];decide)).mono ?_;rintro e wz ⟨E',rfl,PZ,SZ,KZ,uZ,zZ⟩;replace HB:=zH<|HB.out.trans (KZ.toBelow HB.out.size (λi hi q=>by have:=HuE.out i q;omega))
   clear PZ SZ KZ uZ zZ;go_wp2_with fail;go_ret;exact⟨rfl,HB.out⟩
end
end Go.Proofs.YtjlfibhbfdckpaaGreatDoor
