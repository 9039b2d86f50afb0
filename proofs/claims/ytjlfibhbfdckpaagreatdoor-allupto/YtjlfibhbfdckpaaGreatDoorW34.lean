import Derived.Test.YtjlfibhbfdckpaaGreatDoorW33
namespace Go.Proofs.YtjlfibhbfdckpaaGreatDoor
set_option maxHeartbeats 64000000
set_option maxRecDepth 100000
section
open Go.RowKit
attribute [local go_sem ↓] Go.wp_at_zero Go.wp_at_succ
theorem zs5 (a b:zk) (w:World):(binOp .eql 38 a.agg b.agg).run Tryz.prog w=.ok (.bool (a.eqB b)) w:=by
 obtain⟨r,p,⟨f,n,bo,un,re⟩⟩:=a;obtain⟨r',p',⟨f',n',bo',un',re'⟩⟩:=b;go_simp
 unfold zk.eqB Pn.eqB;by_cases h1:r=r'
 ·by_cases h2:p=p'
  ·by_cases h3:f=f'
   ·by_cases h4:n=n'
    ·by_cases h5:bo=bo'
     ·by_cases h6:un=un'
      ·by_cases h7:re=re'
       ·simp[h1,h2,h3,h4,h5,h6,h7]
       ·simp[h1,h2,h3,h4,h5,h6,h7]
      ·simp[h1,h2,h3,h4,h5,h6]
     ·simp[h1,h2,h3,h4,h5]
    ·simp[h1,h2,h3,h4]
   ·simp[h1,h2,h3]
  ·simp[h1,h2]
 ·simp[h1]
theorem zjm (w:World) (a b:Nat):∃q,(w.drewN a).drewN b=w.drewN q:=⟨a+b,by simp[World.drewN,Nat.add_assoc]⟩
theorem zrj {p:Nat->Bool} {n k:Nat} (hk:k<n) (hp:p k=true) (h:zci p n 0=k+zci p (n-k) k):zci p n 0=(k+1)+zci p (n-(k+1)) (k+1):=by
 obtain⟨m,rfl⟩:∃m,n=k+1+m:=⟨n-(k+1),by omega⟩;have e1:k+1+m-k=m+1:=by omega
 have e2:k+1+m-(k+1)=m:=by omega
 rw[h,e1,e2,zci,if_pos hp];omega
theorem zrk {p:Nat->Bool} {n k:Nat} (hk:k<n) (hp:p k=false) (h:zci p n 0=k+zci p (n-k) k):zci p n 0=k:=by
 obtain⟨m,rfl⟩:∃m,n=k+1+m:=⟨n-(k+1),by omega⟩;have e1:k+1+m-k=m+1:=by omega
 rw[h,e1,zci,if_neg (by rw[hp];decide)];rfl
theorem zrl (g off n cap:Nat) (c:Nat->zk) (w:World) (h:∀i,i<n->zv w g (off+i*7) (c i)) (hn:n<=100000):
 Calls Tryz.prog 219 #[.slice (some ⟨g,off,none⟩) n cap] w λe w'=>e=.returned (.int .i64 (zci (λi=>(c i).eqB (c 0)) n 0:Nat))/\∃q,w'=w.drewN q:=by
 have HH:=zH h;clear h;go_in;go_wp2_with fail;go_loopw[3] (λvi wr=>∃k:Nat,vi=.int .i64 k/\k<=n/\zci (λi=>(c i).eqB (c 0)) n 0=k+zci (λi=>(c i).eqB (c 0)) (n-k) k/\∃q,wr=w.drewN q) (λvi _=>n-(intOf vi).toNat)
 case atStart=>exact⟨0,rfl,Nat.zero_le _,by simp,0,rfl⟩
 case round=>
  obtain⟨k,rfl,hk,hr,q,rfl⟩:=hrel;have Hr:=zH hr;clear hr;by_cases hc:k<n
  ·have hc':(k:Int)<(n:Int):=by omega
   have hn0:(0:Int)<(n:Int):=by omega
   obtain⟨a0,a1,a2,a3,a4,a5,a6⟩:=HH.out 0 (by omega);obtain⟨b0,b1,b2,b3,b4,b5,b6⟩:=HH.out k hc;have heq:=λw=>zs5 (c k) (c 0) w;simp only[Nat.zero_mul,Nat.add_zero] at a0 a1 a2 a3 a4 a5 a6;cases he:(c k).eqB (c 0) with
   |true=>
    have He:=zH he;simp only[he] at heq;clear he;go_wp2_with fail;go_quiet (fail);go_wp2_with fail;go_roundw
    case rel=>exact⟨k+1,by go_num,by omega,zrj hc He.out Hr.out,_,rfl⟩
    case measure=>simp[intOf];omega
   |false=>
    have He:=zH he;simp only[he] at heq;clear he;go_wp2_with fail;go_quiet (fail);go_wp2_with fail;go_ret;exact⟨by rw[zrk hc He.out Hr.out];rfl,zjm _ _ _⟩
  ·have ek:k=n:=by omega
   have Hek:=zH ek;have hc':¬((k:Int)<(n:Int)):=by omega
   clear ek;go_wp2_with fail;go_quiet (fail);go_wp2_with fail;go_ret;refine⟨?_,zjm _ _ _⟩;have e:=Hr.out;rw[Hek.out,Nat.sub_self,zci,Nat.add_zero] at e;rw[e];exact congrArg (λx:Nat=>Ending.returned (.int .i64 x)) Hek.out
theorem zcO (a b:zk) (w:World):(binOp .neq 38 a.agg b.agg).run Tryz.prog w=.ok (.bool (!a.eqB b)) w:=by
 obtain⟨r,p,⟨f,n,bo,un,re⟩⟩:=a;obtain⟨r',p',⟨f',n',bo',un',re'⟩⟩:=b;go_simp
 unfold zk.eqB Pn.eqB;by_cases h1:r=r'
 ·by_cases h2:p=p'
  ·by_cases h3:f=f'
   ·by_cases h4:n=n'
    ·by_cases h5:bo=bo'
     ·by_cases h6:un=un'
      ·by_cases h7:re=re'
       ·simp[h1,h2,h3,h4,h5,h6,h7]
       ·simp[h1,h2,h3,h4,h5,h6,h7]
      ·simp[h1,h2,h3,h4,h5,h6]
     ·simp[h1,h2,h3,h4,h5]
    ·simp[h1,h2,h3,h4]
   ·simp[h1,h2,h3]
  ·simp[h1,h2]
 ·simp[h1]
structure PcM (w:World) (po:Nat) (lb lc:Nat->Nat) (W H:Nat) (P:Nat->Nat->zk):Prop where
 row:∀y,y<H->w.cell? ⟨po,y,none⟩=some (.slice (some ⟨lb y,0,none⟩) W (lc y))
 cap:∀y,y<H->W<=lc y
 cel:∀y x,y<H->x<W->zv w (lb y) (x*7) (P x y)
theorem PcM.far {w w':World} {po W H:Nat} {lb lc:Nat->Nat} {P:Nat->Nat->zk} (h:PcM w po lb lc W H P) (hb:∀i,i<w.heap.size->i=po\/(∃y,y<H/\i=lb y)->w'.heap[i]?=w.heap[i]?):PcM w' po lb lc W H P:=
 ⟨λy hy=>by
  have e:=hb po (World.block_lt_of_cell? _ _ (h.row y hy)) (.inl rfl);rw[←h.row y hy];simp[World.cell?,e],h.cap,λy x hy hx=>(h.cel y x hy hx).same (hb _ (h.cel y x hy hx).lt (.inr ⟨y,hy,rfl⟩))⟩
theorem PcM.below {w w':World} {po W H:Nat} {lb lc:Nat->Nat} {P:Nat->Nat->zk} (h:PcM w po lb lc W H P) (hb:Below w.heap.size w w'):PcM w' po lb lc W H P:=h.far (λi hi _=>hb.block i hi)
structure PtM (w:World) (bp po pc:Nat) (lb lc:Nat->Nat) (H:Nat) (P:Nat->Nat->zk) (bs bg g N:Nat) (s:Rs) (t:Pt):Prop where
 c0:w.cell? ⟨bp,0,none⟩=some (.slice (some ⟨po,0,none⟩) H pc)
 c1:w.cell? ⟨bp,1,none⟩=some (.pointer (some ⟨bs,0,none⟩))
 pic:PcM w po lb lc s.W H P
 hs:H=s.H
 hpc:H<=pc
 scr:zh w bs bg g N s t
theorem PtM.below {w w':World} {bp po pc H bs bg g N:Nat} {lb lc:Nat->Nat} {P:Nat->Nat->zk} {s:Rs} {t:Pt} (h:PtM w bp po pc lb lc H P bs bg g N s t) (hb:Below w.heap.size w w'):PtM w' bp po pc lb lc H P bs bg g N s t:=by
 have e:=hb.cells (b:=bp) (World.block_lt_of_cell? _ _ h.c0);exact⟨(e 0).trans h.c0,(e 1).trans h.c1,h.pic.below hb,h.hs,h.hpc,h.scr.below hb⟩
theorem zig (bp po pc:Nat) (lb lc:Nat->Nat) (H:Nat) (P:Nat->Nat->zk) (bs bg g N:Nat) (s:Rs) (t:Pt) (x y:Nat) (w:World) (h:PtM w bp po pc lb lc H P bs bg g N s t) (hx:x<s.W) (hy:y<s.H):
 Calls Tryz.prog 177 #[.pointer (some ⟨bp,0,none⟩),.int .i64 x,.int .i64 y] w λe w'=>e=.returned (.bool (ZL s P x y))/\Below w.heap.size w w':=by
 have HH:=zH h;have hyH:y<H:=by rw[h.hs];exact hy
 have c0:=h.c0;have c1:=h.c1;have r0:=h.pic.row y hyH;obtain⟨a0,a1,a2,a3,a4,a5,a6⟩:=h.pic.cel y x hyH hx;have zb:=World.block_lt_of_cell? _ _ c0;have zp:=World.block_lt_of_cell? _ _ r0;have zl:=World.block_lt_of_cell? _ _ a0;have hneq:=λw=>zcO (s.G x y) (P x y) w;have hx':(x:Int)<(s.W:Int):=by omega
 have hy':(y:Int)<(H:Int):=by omega
 have hd:ZL s P x y = !(s.G x y).eqB (P x y):=rfl;rw[hd];clear hd h;generalize (!(s.G x y).eqB (P x y))=bb at *;go_in;go_wp2_with fail;go_region_held3 (λw'=>w'.cell? ⟨bp,0,none⟩=some (.slice (some ⟨po,0,none⟩) H pc)/\w'.cell? ⟨bp,1,none⟩=some (.pointer (some ⟨bs,0,none⟩))/\w'.cell? ⟨po,y,none⟩=some (.slice (some ⟨lb y,0,none⟩) s.W (lc y))/\w'.cell? ⟨lb y,x*7,none⟩=some (.int .i32 (P x y).r)/\w'.cell? ⟨lb y,x*7+1,none⟩=some (.int .i64 (P x y).p)/\w'.cell? ⟨lb y,x*7+2,none⟩=some (.int .i64 (P x y).n.f)/\w'.cell? ⟨lb y,x*7+3,none⟩=some (.int .i64 (P x y).n.b)/\w'.cell? ⟨lb y,x*7+4,none⟩=some (.bool (P x y).n.bo)/\w'.cell? ⟨lb y,x*7+5,none⟩=some (.bool (P x y).n.un)/\w'.cell? ⟨lb y,x*7+6,none⟩=some (.bool (P x y).n.re)) (simp[*]) (first|(go_at_call 122;refine(znC bs bg g N s t x y _ (HH.out.scr.below (by first|exact Below.refl _ _|exact(Below.refl _ _).drew)) hx hy).mono ?_;rintro e w7 ⟨rfl,hb7⟩;have hb8:=zL hb7;have e4:=hb8.cells (b:=bp) zb;have e5:=hb8.cells (b:=po) zp;have e6:=hb8.cells (b:=lb y) zl;have HB8:=zH<|hb8;clear hb7 hb8));all_goals
  go_wp2_with fail;go_ret;exact⟨rfl,HB8.out⟩
end
section
open Wd (wd)
def zw2 (x y:Int):Wn:=⟨1,0,x,y,true,6,3,λ_ _=>blk Pn.plain⟩
def zw3 (v z:Int) (G:Nat->Nat->zk):Wn:=⟨2,1,v,z,true,4,2,G⟩
def zxe (x y v z:Int) (G:Nat->Nat->zk):List Wn:=[Zd 10 5,zw2 x y,zw3 v z G]
def zw4 (n:Int):Nat:=n.toNat
def zxf (x y v z:Int) (l:List Int) (p:Pn) (k i:Int):zk:=
 if (x<=k/\k<x+6/\y<=i/\i<y+3)/\i=y+z+1/\0<=k-x-v/\k-x-v<l.length then⟨l.getD (k-x-v).toNat 0,0,p⟩ else blk Pn.plain
def zxg (l:List Int) (p:Pn):Nat->Nat->zk:=λa b=>if b=1/\a<l.length then⟨l.getD a 0,0,p⟩ else blk Pn.plain
end
section
open Go.RowKit
attribute [local go_sem ↓] Go.wp_at_zero Go.wp_at_succ
def zei (c:Int) (n:Nat):Nat:=((if c<0 then -(c+1) else c)%n).toNat
theorem zfX (c:Int) {n:Nat} (h:0<n):zei c n<n:=by
 unfold zei;have:=Int.emod_lt_of_pos (if c<0 then -(c+1) else c) (show(0:Int)<n by omega);have:=Int.emod_nonneg (if c<0 then -(c+1) else c) (show(n:Int)≠0 by omega);omega
theorem zjn {c:Int} {n:Nat} (h:0<n) (hc:¬c<0):c.tmod n=zei c n:=by
 unfold zei;rw[if_neg hc,Int.toNat_of_nonneg (Int.emod_nonneg _ (by omega)),Int.tmod_eq_emod_of_nonneg (by omega)]
theorem zjo {c:Int} {n:Nat} (h:0<n) (hc:c<0):(-(c+1)).tmod n=zei c n:=by
 unfold zei;rw[if_pos hc,Int.toNat_of_nonneg (Int.emod_nonneg _ (by omega)),Int.tmod_eq_emod_of_nonneg (by omega)]
def zxj (p:Pn):Pn:={p with f:=zei p.f 9,b:=zei p.b 9}
def zxh:List Wn:=zY [Zd 2 1] 0 (λu=>{u with G:=writeAll 2 1 0 Pn.plain 0 (Zh ⟨#[97]⟩ 1 0) (Zd 2 1).G})
def zxi:Wn:={Zd 2 1 with G:=writeAll 2 1 0 Pn.plain 0 (Zh ⟨#[97]⟩ 1 0) (Zd 2 1).G}
def zxk (L:List Wn) (K:Nat) (r:Wn):Nat->Nat->zk:=λx y=>zcx L K r x y
theorem zs6:(Tryz.prog.info? 120).map (λi=>(i.zero,i.size,i.bytes))=some (some (.slice none 0 0),1,24):=by kernel_rfl
structure PcW (w:World) (m0 po W H:Nat) (lb:Nat->Nat) (P:Nat->Nat->zk) (y:Nat):Prop where
 po0:m0<=po
 plt:po<w.heap.size
 has:∀j,j<H->(w.cell? ⟨po,j,none⟩).isSome=true
 free:∀o,w.frozen? ⟨po,o,none⟩=false
 row:∀j,j<y->w.cell? ⟨po,j,none⟩=some (.slice (some ⟨lb j,0,none⟩) W W)
 cel:∀j x,j<y->x<W->zv w (lb j) (x*7) (P x j)
 ne:∀j,j<y->lb j≠po/\m0<=lb j/\lb j<w.heap.size
theorem PcW.keep {w w':World} {m0 po W H:Nat} {lb:Nat->Nat} {P:Nat->Nat->zk} {y:Nat} (h:PcW w m0 po W H lb P y) (hp:w'.heap[po]?=w.heap[po]?) (hl:∀j,j<y->w'.heap[lb j]?=w.heap[lb j]?) (hs:w.heap.size<=w'.heap.size):PcW w' m0 po W H lb P y:=
 ⟨h.po0,by have:=h.plt;omega,λj hj=>by rw[Zj hp];exact h.has j hj,λo=>by rw[za4 hp];exact h.free o,λj hj=>by rw[Zj hp];exact h.row j hj,λj x hj hx=>(h.cel j x hj hx).same (hl j hj),λj hj=>by have:=h.ne j hj;omega⟩
theorem PcW.below {w w':World} {m0 po W H:Nat} {lb:Nat->Nat} {P:Nat->Nat->zk} {y:Nat} (h:PcW w m0 po W H lb P y) (hb:Below w.heap.size w w'):PcW w' m0 po W H lb P y:=
 h.keep (hb.block _ h.plt) (λj hj=>hb.block _ (h.ne j hj).2.2) hb.size
theorem zpb (w:World) (n:Nat) (t:TypeId):∀j,j<n->(w.alloc (.cells (madeCells #[.slice none 0 0] (n*1)) t)).cell? ⟨w.heap.size,j,none⟩=some (.slice none 0 0):=by
 intro j hj;rw[za (zf w _)];unfold madeCells;rw[Array.getElem?_map,Array.getElem?_range,if_pos (by omega)];simp only[Option.map_some];rw[show j%(#[.slice none 0 0]:Array Value).size=0 by simp[Nat.mod_one]];rfl
def zmJ (P:Nat->Nat->zk) (y x:Nat):Nat->zk:=λi=>if i<x then P i y else⟨0,0,Pn.plain⟩
theorem zih {P:Program} (w wB:World) (b:Nat) {ops:Array Oper} {rest:List Oper} {o:Oper} {a:Act} {Q:Exit->Act->World->Prop}
 (hg:o.guard=none) (l c:Operand) (t:TypeId) (hop:o.op=Op.makeSlice t l c)
 (e:TypeId) (z:Value) (size bytes:Nat) (h1:P.underlying t=some (.slice e)) (h2:(P.info? e).map (λi=>(i.zero,i.size,i.bytes))=some (some z,size,bytes))
 (n:Nat) (hl:a.eval l=.int .i64 n) (hc:a.eval c=.int .i64 n) (hn:n<=800) (hb:bytes<=1000) (hw:w.alloc (.cells (madeCells z.cells (n*size)) e)=wB) (hbb:w.heap.size=b)
 (hK:wpList P ops Q rest (a.put o.dst (.slice (some ⟨b,0,none⟩) n n)) wB):wpList P ops Q (o::rest) a w:=by
 subst hw hbb;exact zcV w hg l c t hop e z size bytes h1 h2 n hl hc hn hb hK
theorem zpc (P:Nat->Nat->zk) (y:Nat):zmJ P y 0=λ_=>⟨0,0,Pn.plain⟩:=by funext i;unfold zmJ;rw[if_neg (by omega)]
theorem zrm (P:Nat->Nat->zk) (y x:Nat):zgU (zmJ P y x) x (P x y)=zmJ P y (x+1):=by
 funext i;unfold zgU zmJ;by_cases h:i=x
 ·subst h;rw[if_pos rfl,if_pos (by omega)]
 ·rw[if_neg h];by_cases h2:i<x
  ·rw[if_pos h2,if_pos (by omega)]
  ·rw[if_neg h2,if_neg (by omega)]
structure PcX (w:World) (m0 po b W H:Nat) (lb:Nat->Nat) (P:Nat->Nat->zk) (y x:Nat):Prop where
 pw:PcW w m0 po W H lb P y
 row:w.cell? ⟨po,y,none⟩=some (.slice (some ⟨b,0,none⟩) W W)
 fl:zay w b W (zmJ P y x)
 nb:b≠po/\m0<=b
 nl:∀j,j<y->b≠lb j
theorem PcX.below {w w':World} {m0 po b W H:Nat} {lb:Nat->Nat} {P:Nat->Nat->zk} {y x:Nat} (h:PcX w m0 po b W H lb P y x) (hx:1<=W) (hb:Below w.heap.size w w'):PcX w' m0 po b W H lb P y x:=
 ⟨h.pw.below hb,by rw[Zj (hb.block _ h.pw.plt)];exact h.row,h.fl.same (hb.block _ (h.fl.cel 0 hx).lt),h.nb,h.nl⟩
theorem PcX.put {w:World} {m0 po b W H:Nat} {lb:Nat->Nat} {P:Nat->Nat->zk} {y x:Nat} (h:PcX w m0 po b W H lb P y x) (hx:x<W):PcX (put7 w b (x*7) (P x y)) m0 po b W H lb P y (x+1):=by
 have e:=zW w b (x*7) po (P x y) (Ne.symm h.nb.1);exact⟨h.pw.keep e (λj hj=>zW _ _ _ _ _ (Ne.symm (h.nl j hj))) (by rw[zaJ];exact Nat.le_refl _),by rw[Zj e];exact h.row,by rw[←zrm];exact h.fl.put hx (P x y),h.nb,h.nl⟩
theorem zrn {M:Mm} {L:List Wn} {last:Int} {N:Nat} {s:Rs} {t:Pt} {rk:Int->Nat} {K:Nat} (T:ZR L rk K) (ok:ZK L last) (w:World) (h:zI w M L last N s t) (r:Wn) (hr:r∈L) (hr0:r.n=0):
 Calls Tryz.prog 124 #[.pointer (some ⟨M.t 1,0,none⟩)] w λe w'=>∃po lb,e=.returned (.slice (some ⟨po,0,none⟩) r.H r.H)/\PcM w' po lb (λ_=>r.W) r.W r.H (λx y=>zcx L K r x y)/\Below w.heap.size w w':=by
 have hw:=h.win r hr;have g0:=hw.gr;have f5:=hw.f5;rw[hr0] at g0 f5;have w1:=g0.w1;have w2:=g0.w2;have hh1:=g0.h1;have hh2:=g0.h2;have k0:w.cell? ⟨M.t 1,0,none⟩=some (.pointer (some ⟨M.b 0,0,none⟩)):=za h.b1 0;have HD:Hid (zI w M L last N s t/\ZR L rk K/\ZK L last/\r∈L/\r.n=0):=⟨h,T,ok,hr,hr0⟩;have HG:=zH g0;have z1:M.t 1<w.heap.size:=World.block_lt_of_cell? _ _ k0;have z2:M.b 0<w.heap.size:=World.block_lt_of_cell? _ _ f5;obtain⟨m0,hm0⟩:∃m0,w.heap.size=m0:=⟨_,rfl⟩;have Hm0:=zH hm0;obtain⟨P,hP⟩:∃P:Nat->Nat->zk,(λx y:Nat=>zcx L K r x y)=P:=⟨_,rfl⟩;have HP:=zH hP;rw[hP];clear hw g0 hP h T ok hr hr0 hm0;go_in;go_wp2_with fail;go_at_call 127;refine sM (zbF (M.c 0) (M.g 0) r.W r.H _ r.G w HG.out) ?_;go_wp2_with (at_make;go_must (refine zcV _ rfl _ _ 155 rfl 120 _ 1 24 Tryz.underlying155 zs6 r.H (by rfl) (by rfl) (by omega) (by omega) ?_));have hA:∃wA po,w.alloc (.cells (madeCells #[.slice none 0 0] (r.H*1)) 120)=wA/\w.heap.size=po/\PcW wA m0 po r.W r.H (λ_=>0) P 0/\Below w.heap.size w wA:=by
  refine⟨_,_,rfl,rfl,⟨Nat.le_of_eq Hm0.out.symm,by simp,λj hj=>by rw[zpb w r.H _ j hj];rfl,ze (zf _ _),λj hj=>absurd hj (Nat.not_lt_zero _),λj x hj=>absurd hj (Nat.not_lt_zero _),λj hj=>absurd hj (Nat.not_lt_zero _)⟩,(Below.refl _ _).alloc (Nat.le_refl _) _⟩
 obtain⟨wA,po,hwA,hpo,pA,belA⟩:=hA;try simp only[Nat.mul_one] at hwA
 rw[hwA];try rw[hpo]
 have HA:Hid (PcW wA m0 po r.W r.H (λ_=>0) P 0/\Below w.heap.size w wA):=⟨pA,belA⟩;clear hwA hpo pA belA k0 f5;go_loopw[17] (λvi wr=>∃y:Nat,vi=.int .i64 y/\y<=r.H/\(∃lb,PcW wr m0 po r.W r.H lb P y)/\Below w.heap.size w wr) (λvi _=>r.H-(intOf vi).toNat)
 case atStart=>exact⟨0,rfl,Nat.zero_le _,⟨_,HA.out.1⟩,HA.out.2⟩
 case round=>
  obtain⟨y,rfl,hy,⟨lb,hpw⟩,hbw⟩:=hrel;have HB:Hid (PcW wr m0 po r.W r.H lb P y/\Below w.heap.size w wr):=⟨hpw,hbw⟩;clear hpw hbw HA;by_cases hc:y<r.H
  ·have hc':(y:Int)<(r.H:Int):=by omega
   have k0:wr.cell? ⟨M.t 1,0,none⟩=some (.pointer (some ⟨M.b 0,0,none⟩)):=za (HD.out.1.below HB.out.2).b1 0;have f5:wr.cell? ⟨M.b 0,5,none⟩=some (.pointer (some ⟨M.c 0,0,none⟩)):=by
    have:=((HD.out.1.below HB.out.2).win r HD.out.2.2.2.1).f5;rw[HD.out.2.2.2.2] at this;exact this
   have Hy:=zH hc;clear hc hy;go_wp2_with fail;go_at_call 126;refine sM (zcC (M.c 0) (M.g 0) r.W r.H _ r.G wr (HG.out.below HB.out.2)) ?_;clear k0 f5;have hB:∃wB b,wr.alloc (.cells (madeCells #[.int .i32 0,.int .i64 0,.int .i64 0,.int .i64 0,.bool false,.bool false,.bool false] (r.W*7)) 38)=wB/\wr.heap.size=b/\zay wB b r.W (λ_=>⟨0,0,Pn.plain⟩)/\Below wr.heap.size wr wB/\wB.heap.size=b+1:=⟨_,_,rfl,rfl,ziG wr r.W _,(Below.refl _ _).alloc (Nat.le_refl _) _,by simp⟩;obtain⟨wB,b,hwB,hbb,fB,belB,zB⟩:=hB;have HW:Hid (wr.alloc (.cells (madeCells #[.int .i32 0,.int .i64 0,.int .i64 0,.int .i64 0,.bool false,.bool false,.bool false] (r.W*7)) 38)=wB/\wr.heap.size=b):=⟨hwB,hbb⟩;have HB2:Hid (PcW wB m0 po r.W r.H lb P y/\Below w.heap.size w wB/\zay wB b r.W (λ_=>⟨0,0,Pn.plain⟩)):=⟨HB.out.1.below belB,HB.out.2.trans (belB.mono HB.out.2.size),fB⟩;have Hbb:Hid (b≠po/\m0<=b/\∀j,j<y->b≠lb j):=by
    have h1:=HB.out.1.plt;have h2:=HB.out.2.size;have h3:=Hm0.out;refine⟨by omega,by omega,λj hj=>?_⟩;have:=(HB.out.1.ne j hj).2.2;omega
   obtain⟨v0,hv0⟩:=Option.isSome_iff_exists.1 (HB2.out.1.has y Hy.out);have fv:=HB2.out.1.free y;clear hwB hbb fB belB zB;go_wp2_with (at_make;go_must (refine zih _ wB b rfl _ _ 120 rfl 38 _ 7 40 Tryz.underlying120 zkr r.W (by rfl) (by rfl) (by omega) (by omega) HW.out.1 HW.out.2 ?_));have hC:∃wC,wB.setCell ⟨po,y,none⟩ (.slice (some ⟨b,0,none⟩) r.W r.W)=wC/\PcX wC m0 po b r.W r.H lb P y 0/\Below w.heap.size w wC:=by
    have k:=(zd.refl (λi=>i=po) wB).setCell ⟨po,y,none⟩ (.slice (some ⟨b,0,none⟩) r.W r.W) (λ_=>rfl);obtain⟨q1,q2,q3⟩:=HB2.out;obtain⟨n1,n2,n3⟩:=Hbb.out;have hself:(wB.setCell ⟨po,y,none⟩ (.slice (some ⟨b,0,none⟩) r.W r.W)).cell? ⟨po,y,none⟩=some (.slice (some ⟨b,0,none⟩) r.W r.W):=zcp _ _ _ _ _ hv0;have hfar:∀j,j≠y->(wB.setCell ⟨po,y,none⟩ (.slice (some ⟨b,0,none⟩) r.W r.W)).cell? ⟨po,j,none⟩=wB.cell? ⟨po,j,none⟩:=λj hj=>zF _ _ _ _ _ hj;refine⟨_,rfl,⟨⟨q1.po0,by rw[zbA];exact q1.plt,λj hj=>?_,λo=>by rw[zdS];exact q1.free o,λj hj=>by rw[hfar j (by omega)];exact q1.row j hj,λj x hj hx=>(q1.cel j x hj hx).same (k.block _ (q1.ne j hj).2.2 (q1.ne j hj).1),λj hj=>by rw[zbA];exact q1.ne j hj⟩,hself,by rw[zpc];exact q3.same (k.block _ (q3.cel 0 (by omega)).lt n1),⟨n1,n2⟩,n3⟩,?_⟩
    ·by_cases e:j=y
     ·rw[e,hself];rfl
     ·rw[hfar j e];exact q1.has j hj
    ·exact q2.trans (k.toBelow q2.size (λi hi e=>by have:=q1.po0;have:=Hm0.out;omega))
   obtain⟨wC,hwC,pC,belC⟩:=hC;rw[hwC];have HC:Hid (PcX wC m0 po b r.W r.H lb P y 0/\Below w.heap.size w wC):=⟨pC,belC⟩;clear hwC pC belC hv0 fv HB2 HW HB;go_loopw[37] (λvi wi=>∃x:Nat,vi=.int .i64 x/\x<=r.W/\PcX wi m0 po b r.W r.H lb P y x/\Below w.heap.size w wi) (λvi _=>r.W-(intOf vi).toNat)
   case atStart=>exact⟨0,rfl,Nat.zero_le _,HC.out.1,HC.out.2⟩
   case round=>
    obtain⟨x,rfl,hx,hpx,hbi⟩:=hrel;have HBi:Hid (PcX wr m0 po b r.W r.H lb P y x/\Below w.heap.size w wr):=⟨hpx,hbi⟩;clear hpx hbi HC;by_cases hxc:x<r.W
    ·have hxc':(x:Int)<(r.W:Int):=by omega
     have Hx:=zH hxc;have q2:=HBi.out.1.row;have lg:=HBi.out.1.pw.plt;obtain⟨t0,t1,t2,t3,t4,t5,t6⟩:=HBi.out.1.fl.cel x hxc;have lb2:b<wr.heap.size:=World.block_lt_of_cell? _ _ t0;have fr:=HBi.out.1.fl.free;have nb1:=HBi.out.1.nb.1;have nb2:=Ne.symm nb1;clear hxc hx;go_wp2_with fail;go_region_held3 (λw'=>w'.cell? ⟨po,y,none⟩=some (.slice (some ⟨b,0,none⟩) r.W r.W)/\(w'.cell? ⟨b,x*7,none⟩).isSome=true/\(w'.cell? ⟨b,x*7+1,none⟩).isSome=true/\(w'.cell? ⟨b,x*7+2,none⟩).isSome=true/\(w'.cell? ⟨b,x*7+3,none⟩).isSome=true/\(w'.cell? ⟨b,x*7+4,none⟩).isSome=true/\(w'.cell? ⟨b,x*7+5,none⟩).isSome=true/\(w'.cell? ⟨b,x*7+6,none⟩).isSome=true/\(∀o,w'.frozen? ⟨b,o,none⟩=false)) (simp[*,World.cell?_setCell_far,ZZ]) (first|(go_at_call 43;refine(ztA HD.out.2.1 HD.out.2.2.1 _ (HD.out.1.below (by first|exact HBi.out.2|exact HBi.out.2.drew)) r HD.out.2.2.2.1 HD.out.2.2.2.2 x y Hx.out Hy.out (P x y) (by rw[←HP.out])).mono ?_;rintro e w5 ⟨rfl,hb5⟩;have e1:=hb5.cells lg;have e3:=hb5.cells lb2;have e4:=hb5.marks lb2));have hb6:=zL hb5;have hE:∃wE,put7 w5 b (x*7) (P x y)=wE/\PcX wE m0 po b r.W r.H lb P y (x+1)/\Below w.heap.size w wE:=by
      have px:=(HBi.out.1.below w1 hb6).put Hx.out;refine⟨_,rfl,px,?_⟩;have bb:=HBi.out.2.trans (hb6.mono HBi.out.2.size);exact bb.trans (((zd.refl (λi=>i=b) w5).put7 b (x*7) (P x y) (λ_=>rfl)).toBelow bb.size (λi hi e=>by have:=Hbb.out.2.1;have:=Hm0.out;omega))
     obtain⟨wE,hwE,pE,belE⟩:=hE;unfold put7 at hwE;rw[hwE];have HE:Hid (PcX wE m0 po b r.W r.H lb P y (x+1)/\Below w.heap.size w wE):=⟨pE,belE⟩;rename_i hS;clear hS hwE pE belE e1 e3 e4 q2 t0 t1 t2 t3 t4 t5 t6 fr hb5 hb6;go_wp2_with fail;go_roundw
     case rel=>exact⟨x+1,by go_num,by have:=Hx.out;omega,HE.out.1,HE.out.2⟩
     case measure=>simp[intOf];have:=Hx.out;omega
    ·have hxc':¬((x:Int)<(r.W:Int)):=by omega
     have ex:x=r.W:=by omega
     have Hex:=zH ex;clear ex hxc hx;have Hnx:Hid (PcW wr m0 po r.W r.H (λj=>if j=y then b else lb j) P (y+1)):=by
      obtain⟨q1,q2,q3,q4,q5⟩:=HBi.out.1;refine⟨q1.po0,q1.plt,q1.has,q1.free,λj hj=>?_,λj a hj ha=>?_,λj hj=>?_⟩
      ·by_cases e:j=y
       ·simp only[e,if_true];exact q2
       ·simp only[e,if_false];exact q1.row j (by omega)
      ·by_cases e:j=y
       ·have:=q3.cel a ha;unfold zmJ at this;rw[if_pos (by rw[Hex.out];exact ha)] at this;simp only[e,if_true];exact this
       ·simp only[e,if_false];exact q1.cel j a (by omega) ha
      ·by_cases e:j=y
       ·simp only[e,if_true];exact⟨q4.1,q4.2,(q3.cel 0 (by omega)).lt⟩
       ·simp only[e,if_false];exact q1.ne j (by omega)
     go_wp2_with fail;go_roundw
     case rel=>exact⟨y+1,by go_num,by have:=Hy.out;omega,⟨_,Hnx.out⟩,HBi.out.2⟩
     case measure=>simp[intOf];have:=Hy.out;omega
  ·have hc':¬((y:Int)<(r.H:Int)):=by omega
   have ey:y=r.H:=by omega
   have Hey:=zH ey;clear ey hc hy;go_wp2_with fail;go_ret;refine⟨po,rfl,⟨lb,⟨λj hj=>HB.out.1.row j (by rw[Hey.out];exact hj),λ_ _=>Nat.le_refl _,λj x hj hx=>HB.out.1.cel j x (by rw[Hey.out];exact hj) hx⟩⟩,HB.out.2⟩
structure zj8 (w:World) (bp n1:Nat) (c0 c1:Value) (l:List UInt8):Prop where
 ex:∃ap v,w.heap[bp]?=some (.cells #[c0,c1,ap,v] 194)/\(ap=.pointer none\/ap=.pointer (some ⟨bp,2,none⟩))/\w.ownsRow n1 5 1 v l.length (Lib.byteCells l)/\(v=.slice none 0 0↔l=[])
 lt:bp<n1
 le:n1<=w.heap.size
def znE (F:Nat->Prop) (w w':World):Prop:=∀(i:Nat) (cs:Array Value) (T:TypeId) (fr:Nat × Nat),w.heap[i]?=some (.cells cs T fr)->T≠5->¬F i->w'.heap[i]?=w.heap[i]?
theorem zro:(Tryz.prog.info? 192).map (·.size)=some 2:=by kernel_rfl
theorem zwf:liesAt Tryz.prog Tryz.prog.depth 194 (4/Tryz.prog.cellsOf 194) 2 192 1=true:=by kernel_rfl
theorem zuQ:(Tryz.prog.info? 5).map (λi=>(i.zero,i.size,i.bytes))=some (some (.int .u8 0),1,1):=by kernel_rfl
theorem zs7:Tryz.prog.cellsOf 5=1:=by kernel_rfl
theorem zmK (bp:Nat) (w:World) (h0:w.cell? ⟨bp,2,none⟩=some (.pointer (some ⟨bp,2,none⟩))):
 Calls Tryz.prog 231 #[.pointer (some ⟨bp,2,none⟩)] w λe w'=>e=.returned (.tuple #[])/\w'=w:=by
 obtain⟨j,hj,_⟩:=Option.map_eq_some_iff.1 zro;go_in;go_wp2_with fail;rw[Lib.run_neq_ptr_same w _ Tryz.underlying190 hj];go_wp2_with fail;go_end0;exact⟨rfl,rfl⟩
theorem zly (bp:Nat) (w:World) (h0:w.cell? ⟨bp,2,none⟩=some (.pointer none)) (hsh:w.shape? bp=some (194,4)) (hfz:w.frozen? ⟨bp,2,none⟩=false):
 Calls Tryz.prog 231 #[.pointer (some ⟨bp,2,none⟩)] w λe w'=>e=.returned (.tuple #[])/\w'=w.setCell ⟨bp,2,none⟩ (.pointer (some ⟨bp,2,none⟩)):=by
 obtain⟨j,hj,hjs⟩:=Option.map_eq_some_iff.1 zro;go_in;go_wp2_with fail;rw[Lib.run_to_unsafe w ⟨bp,2,none⟩ Tryz.underlying190 Tryz.underlying274 hj (by rw[hjs];decide) hsh (show 2<4 by decide)];simp only[Result.andThen];rw[Oper.upon_value];go_wp2_with fail;rw[run_callFunc_extern Tryz.func244 (by kernel_rfl) (by kernel_rfl) (by kernel_rfl) (e:=Extern.AbiNoEscape.same) (by kernel_rfl)];rw[Lib.run_noEscape];simp only[Result.andThen];rw[Oper.upon_value];go_wp2_with fail;rw[Lib.run_from_unsafe w ⟨bp,2,none⟩ Tryz.underlying274 Tryz.underlying190 hj hsh zwf];simp only[Result.andThen];rw[Oper.upon_value];go_wp2_with fail;go_end0;exact⟨rfl,rfl⟩
theorem zuR (bp n1:Nat) (c0 c1:Value) (l:List UInt8) (w:World) (h:zj8 w bp n1 c0 c1 l):
 Calls Tryz.prog 231 #[.pointer (some ⟨bp,2,none⟩)] w λe w'=>e=.returned (.tuple #[])/\(∃v,w'.heap[bp]?=some (.cells #[c0,c1,.pointer (some ⟨bp,2,none⟩),v] 194)/\w'.ownsRow n1 5 1 v l.length (Lib.byteCells l)/\(v=.slice none 0 0↔l=[]))/\zd (λi=>i=bp) w w':=by
 obtain⟨ap,v,hb,ha,hr,hl⟩:=h.ex;rcases ha with rfl|rfl
 ·refine(zly bp w (za hb 2) (by simp[World.shape?,hb]) (ze hb 2)).mono ?_;rintro e w' ⟨rfl,rfl⟩;have k:=(zd.refl (λi=>i=bp) w).setCell ⟨bp,2,none⟩ (.pointer (some ⟨bp,2,none⟩)) (λ_=>rfl);refine⟨rfl,⟨v,zg hb 2 _,ZH hr (λi hi=>k.block i (hr.lt i hi).2 ?_),hl⟩,k⟩;have:=(hr.lt i hi).1;have:=h.lt;omega
 ·refine(zmK bp w (za hb 2)).mono ?_;rintro e w' ⟨rfl,rfl⟩;exact⟨rfl,⟨v,hb,hr,hl⟩,zd.refl _ _⟩
theorem zs8 (bp n1:Nat) (c0 c1:Value) (l b:List UInt8) (w:World) (h:zj8 w bp n1 c0 c1 l) (hlen:l.length+b.length<=1000000):
 Calls Tryz.prog 215 #[.pointer (some ⟨bp,2,none⟩),zaD b] w λe w'=>e=.returned (.tuple #[.int .i64 b.length,.nilIface])/\zj8 w' bp n1 c0 c1 (l++b)/\zd (λi=>i=bp\/n1<=i) w w'/\znE (λi=>i=bp) w w':=by
 obtain⟨i0,hi,hz⟩:=Option.map_eq_some_iff.1 zuQ;have hz0:=(Prod.mk.inj hz).1;have hz1:=(Prod.mk.inj (Prod.mk.inj hz).2).1;have hz2:=(Prod.mk.inj (Prod.mk.inj hz).2).2;have HH:=zH h;have hlt:=h.lt;have hle:=h.le;have hbz:(⟨b.toArray⟩:ByteArray).size=b.length:=rfl;clear h hz;go_in;go_wp2_with fail;go_at_call 231;refine(zuR bp n1 c0 c1 l w HH.out).mono ?_;rintro e w1 ⟨rfl,⟨v,hbk,hown,hv⟩,hk⟩;have hs1:=hk.size;have HK1:=zH hk;have Hv:=zH hv;have d2:w1.cell? ⟨bp,2,none⟩=some (.pointer (some ⟨bp,2,none⟩)):=za hbk 2;have d3:w1.cell? ⟨bp,3,none⟩=some v:=za hbk 3;clear hk hv;go_wp2_with (at_builtin;refine Lib.wpList_append_own_string _ rfl _ _ 177 9 rfl n1 5 i0 Tryz.underlying177 Tryz.underlying9 hi hz0 hz1 hz2 _ _ _ rfl hown ⟨b.toArray⟩ rfl ?c3 ?c4 ?c5 ?_)
 case c3=>unfold maxLen;omega
 case c4=>omega
 case c5=>omega
 intro v' w2 hown' hgrow hnil;have hbp1:bp<w1.heap.size:=by omega
 have hne:v.ownBlock≠some bp:=λe=>by have:=(hown.lt bp e).1;omega
 have hb2:=(hgrow.block bp hbp1 (λe=>hne e.symm)).trans hbk;have e3:w2.cell? ⟨bp,3,none⟩=some v:=za hb2 3;have f3:=ze hb2 3;have hk3:=(zd.refl (λi=>i=bp) w2).setCell ⟨bp,3,none⟩ v' (λ_=>rfl);have hrow':w2.ownsRow n1 5 1 v' (l++b).length (Lib.byteCells (l++b)):=by
  rw[Lib.byteCells_append,List.length_append];exact hown'
 have HP:Hid (zj8 (w2.setCell ⟨bp,3,none⟩ v') bp n1 c0 c1 (l++b)/\zd (λi=>i=bp\/n1<=i) w (w2.setCell ⟨bp,3,none⟩ v')/\znE (λi=>i=bp) w (w2.setCell ⟨bp,3,none⟩ v')):=by
  refine⟨⟨⟨_,v',zg hb2 3 _,.inr rfl,ZH hrow' (λi hi=>hk3.block i (hrow'.lt i hi).2 ?_),?_⟩,hlt,?_⟩,?_,?_⟩
  ·have:=(hrow'.lt i hi).1;omega
  ·rw[hnil,Hv.out,List.append_eq_nil_iff]
  ·have:=hgrow.size;have:=hk3.size;omega
  ·refine((HK1.out.mono (λi hi=>.inl hi)).grown hgrow (λk hk _=>.inr (hown.lt k hk).1)).trans hk3 (λi _ hi=>.inl hi)
  ·intro i cs T fr hi hT hF;have hi0:=(Array.getElem?_eq_some_iff.1 hi).1;have b1:=HK1.out.block i hi0 hF;have b2:=hgrow.block i (by omega) (λe=>Lib.ownBlock_ne hown (b1.trans hi) hT e.symm);have hs2:=hgrow.size;exact(hk3.block i (by omega) hF).trans (b2.trans b1)
 obtain⟨ao,n',cap,rfl⟩:∃ao n' cap,v'=.slice ao n' cap:=by
  rcases hown'.2 with⟨hv,_⟩|⟨g,cap,cur,hv,_⟩
  ·exact⟨_,_,_,hv⟩
  ·exact⟨_,_,_,hv⟩
 clear hrow' hown' hgrow hnil hk3 hown;go_wp2_with fail;go_ret2;exact⟨rfl,HP.out⟩
theorem zs9 (bp n1:Nat) (c0 c1:Value) (l:List UInt8) (w:World) (h:zj8 w bp n1 c0 c1 l):
 Calls Tryz.prog 179 #[.pointer (some ⟨bp,2,none⟩)] w λe w'=>e=.returned (zaD l)/\Below n1 w w':=by
 obtain⟨ap,v,hb,ha,hown,hl⟩:=h.ex;have hUS:=λ(W:World) (q:Option Addr)=>Lib.run_unsafeString_none (P:=Tryz.prog) W 212 3 9 q;by_cases h0:l=[]
 ·subst h0;obtain rfl:=hl.2 rfl;have c1:w.drew.cell? ⟨bp,3,none⟩=some (.slice none 0 0):=za hb 3;have hSD:(Builtin.unsafeSliceData_ #[177] 212 #[.slice none 0 0]).run Tryz.prog w.drew=.ok (.pointer none) w.drew:=rfl;clear hown hl ha h hb;go_in;go_wp2_with fail;go_region;all_goals (go_wp2_with fail;go_ret;exact⟨rfl,Below.drew (Below.refl n1 w)⟩)
 ·have hl0:l.length≠0:=by simpa using h0
  obtain⟨g,cap,cur,rfl,hbg,hg,hnc,hcm,hcs,htake⟩:∃g cap cur,v=.slice (some ⟨g,0,none⟩) l.length cap/\n1<=g/\w.heap[g]?=some (.cells cur 5 (0,0))/\l.length<=cap/\cap<=maxLen/\cur.size=cap*1/\cur.toList.take (l.length*1)=Lib.byteCells l:=by
   rcases hown.2 with⟨_,hz⟩|⟨g,cap,cur,hv,r⟩
   ·exact absurd hz hl0
   ·exact⟨g,cap,cur,hv,r⟩
  have c1:w.drew.cell? ⟨bp,3,none⟩=some (.slice (some ⟨g,0,none⟩) l.length cap):=za hb 3;have hSD:(Builtin.unsafeSliceData_ #[177] 212 #[.slice (some ⟨g,0,none⟩) l.length cap]).run Tryz.prog w.drew=.ok (.pointer (some ⟨g,0,none⟩)) w.drew:=
   Lib.run_unsafeSliceData_row _ _ _ _ _ _ (by omega)
  have hUS:(Builtin.unsafeString_ #[212,3] 9 #[.pointer (some ⟨g,0,none⟩),.int .i64 l.length]).run Tryz.prog w.drew=.ok (.string ⟨l.toArray⟩) (w.drew.freeze ⟨g,0,none⟩ l.length):=by
   refine Lib.run_unsafeString_row w.drew 212 3 9 5 Tryz.underlying212 zs7 g cur.size (by have hg':w.drew.heap[g]?=some (.cells cur 5 (0,0)):=hg;simp[World.shape?,hg']) l h0 (by omega) (by unfold maxLen at hcm;omega) ?_;intro j x hx;have:=hown.cells (g:=g) rfl j (.int .u8 x.toNat) (by simp[Lib.byteCells,hx]);exact this
  clear hown hl ha h hb hg htake hcs hcm hnc hl0 h0;go_in;go_wp2_with fail;go_region;all_goals (go_wp2_with fail;go_ret;exact⟨rfl,Lib.below_freeze (Below.drew (Below.refl n1 w)) (p:=⟨g,0,none⟩) hbg _⟩)
structure PaM (w:World) (m0 n1 bp po pc:Nat) (lb lc:Nat->Nat) (H:Nat) (P:Nat->Nat->zk) (bs bg g N:Nat) (s:Rs) (l:List UInt8):Prop where
 ex:∃t,PtM w bp po pc lb lc H P bs bg g N s t/\Tie s.B t
 bd:zj8 w bp n1 (.slice (some ⟨po,0,none⟩) H pc) (.pointer (some ⟨bs,0,none⟩)) l
 tab:ZY w
 m2:2<=m0
 po0:po<m0
 lb0:∀y,y<H->lb y<m0
 s0:m0<=bs/\bs<n1/\bs≠bp
 g0:m0<=bg/\bg<n1/\bg≠bp
 c0:m0<=g/\g<n1/\g≠bp
 p0:m0<=bp
section
variable {w w':World} {m0 n1 bp po pc:Nat} {lb lc:Nat->Nat} {H:Nat} {P:Nat->Nat->zk} {bs bg g N:Nat} {s:Rs} {l:List UInt8}
theorem zj8.keep {c0 c1:Value} {F:Nat->Prop} (h:zj8 w bp n1 c0 c1 l) (k:zd F w w') (hp:¬F bp) (hn:∀i,n1<=i->¬F i):zj8 w' bp n1 c0 c1 l:=by
 obtain⟨ap,v,hb,ha,hr,hl⟩:=h.ex;have:=h.lt;have:=h.le;have:=k.size;exact⟨⟨ap,v,(k.block bp (by omega) hp).trans hb,ha,ZH hr (λi hi=>k.block i (hr.lt i hi).2 (hn i (hr.lt i hi).1)),hl⟩,h.lt,by omega⟩
theorem PaM.below (h:PaM w m0 n1 bp po pc lb lc H P bs bg g N s l) (hb:Below w.heap.size w w'):PaM w' m0 n1 bp po pc lb lc H P bs bg g N s l:=by
 obtain⟨t,pt,tie⟩:=h.ex;exact⟨⟨t,pt.below hb,tie⟩,h.bd.keep (zd.below (λ_=>False) hb) (λf=>f) (λ_ _ f=>f),h.tab.below hb,h.m2,h.po0,h.lb0,h.s0,h.g0,h.c0,h.p0⟩
theorem PcM.keep {W:Nat} {F:Nat->Prop} (h:PcM w po lb lc W H P) (k:zd F w w') (hp:¬F po) (hl:∀y,y<H->¬F (lb y)):PcM w' po lb lc W H P:=
 h.far (λi hi hc=>k.block i hi (by
  rcases hc with rfl|⟨y,hy,rfl⟩
  ·exact hp
  ·exact hl y hy))
end
theorem zjp (m0 n1 bp po pc:Nat) (lb lc:Nat->Nat) (H:Nat) (P:Nat->Nat->zk) (bs bg g N:Nat) (s:Rs) (l b:List UInt8) (w:World) (h:PaM w m0 n1 bp po pc lb lc H P bs bg g N s l) (ok:s.Ok) (hlen:l.length+b.length<=1000000) (eW:(zj s b).W=s.W) (eH:(zj s b).H=s.H):
 Calls Tryz.prog 198 #[.pointer (some ⟨bp,0,none⟩),zaD b] w λe w'=>e=.returned (.tuple #[])/\PaM w' m0 n1 bp po pc lb lc H P bs bg g N (zj s b) (l++b)/\Below m0 w w'/\znE (λi=>i=bp\/i=bs\/i=bg\/i=g) w w':=by
 have HH:=zH h;have Hok:Hid (s.Ok/\l.length+b.length<=1000000/\(zj s b).W=s.W/\(zj s b).H=s.H):=⟨ok,hlen,eW,eH⟩;clear h ok hlen eW eH;go_in;go_wp2_with fail;go_at_call 215;refine(zs8 bp n1 _ _ l b w HH.out.bd Hok.out.2.1).mono ?_;rintro e w1 ⟨rfl,B1,K1,A1⟩;have hm:n1<=w.heap.size/\bp<n1:=⟨HH.out.bd.le,HH.out.bd.lt⟩;have H1:Hid (∃t,PtM w1 bp po pc lb lc H P bs bg g N s t/\Tie s.B t):=by
  obtain⟨t,pt,tie⟩:=HH.out.ex;obtain⟨ap,v,hb,_⟩:=B1.ex;have s0:=HH.out.s0;have g0:=HH.out.g0;have c0:=HH.out.c0;have p0:=HH.out.p0;have po0:=HH.out.po0;refine⟨t,⟨za hb 0,za hb 1,pt.pic.keep K1 (by omega) (λy hy=>by have:=HH.out.lb0 y hy;omega),pt.hs,pt.hpc,pt.scr.same (K1.block _ pt.scr.lt (by omega)) (K1.block _ pt.scr.gr.lt (by omega)) (K1.block _ pt.scr.gr.glt (by omega))⟩,tie⟩
 have T1:Hid (ZY w1):=by
  have:=HH.out.m2;have:=HH.out.p0;exact HH.out.tab.keep K1 (by omega) (by omega)
 have HB1:=zH B1;have HK1:=zH K1;have c1:w1.cell? ⟨bp,1,none⟩=some (.pointer (some ⟨bs,0,none⟩)):=by
  obtain⟨t,pt,_⟩:=H1.out;exact pt.c1
 have HA1:=zH A1;clear B1 K1 hm A1;go_wp2_with fail;go_at_call 62;obtain⟨t,pt,tie⟩:=H1.out;have s0:=HH.out.s0;have g0:=HH.out.g0;have k0:=HH.out.c0;have m2:=HH.out.m2;have p0:=HH.out.p0;have po0:=HH.out.po0;have n1l:=HB1.out.lt;refine(zq8 bs bg g N s t ⟨b.toArray⟩ w1 pt.scr Hok.out.1 T1.out tie (by omega) (by omega) (by omega) (by omega) (by omega) (by omega) (by have:=Hok.out.2.1;show b.length<=_;omega)).mono ?_;rintro e w2 ⟨rfl,⟨t2,P2,tie2⟩,K2⟩;have e2:zj s (⟨b.toArray⟩:ByteArray).data.toList=zj s b:=by simp
 rw[e2] at P2 tie2;have HF:Hid (PaM w2 m0 n1 bp po pc lb lc H P bs bg g N (zj s b) (l++b)/\Below m0 w w2/\znE (λi=>i=bp\/i=bs\/i=bg\/i=g) w w2):=by
  have hb2:=HB1.out.keep K2 (by omega) (λi hi=>by omega);obtain⟨ap,v,hbk,_⟩:=hb2.ex;have hlb:=HH.out.lb0;refine⟨⟨⟨t2,⟨za hbk 0,za hbk 1,?_,by rw[Hok.out.2.2.2];exact pt.hs,pt.hpc,P2⟩,tie2⟩,hb2,T1.out.keep K2 (by omega) (by omega),m2,po0,hlb,s0,g0,k0,p0⟩,?_,?_⟩
  ·rw[Hok.out.2.2.1];exact pt.pic.keep K2 (by omega) (λy hy=>by have:=hlb y hy;omega)
  ·have hle:=HH.out.bd.le;exact(HK1.out.toBelow (by omega) (λi hi=>by omega)).trans (K2.toBelow (by have:=HK1.out.size;omega) (λi hi=>by omega))
  ·intro i cs T fr hi hT hF;have b1:=HA1.out i cs T fr hi hT (λe=>hF (.inl e));have hi0:=(Array.getElem?_eq_some_iff.1 hi).1;have hs:=HK1.out.size;exact(K2.block i (by omega) (λe=>hF (.inr e))).trans b1
 clear P2 K2 tie2 pt tie;go_wp2_with fail;go_end0;exact⟨rfl,HF.out⟩
def zpd (P:Nat->Nat->zk) (W:Nat) (c:zk) (y:Nat):Bool:=(P 0 y).eqB c&&decide (W<=zaI P W 0 y)
theorem zlz {f:Nat->Bool} {n k:Nat} (hk:k<n) (hf:f k=false):(List.range n).all f=false:=by
 cases h:(List.range n).all f with
 |false=>rfl
 |true=>
  have:=List.all_eq_true.1 h k (List.mem_range.2 hk);rw[hf] at this;cases this
theorem zrp {f:Nat->Bool} {n:Nat} (h:∀i,i<n->f i=true):(List.range n).all f=true:=List.all_eq_true.2 (λi hi=>h i (List.mem_range.1 hi))
theorem zv.drewN {w:World} {g o:Nat} {c:zk} (h:zv w g o c) (n:Nat):zv (w.drewN n) g o c:=h.same rfl
theorem zmL (po off y0 n pc:Nat) (lb lc:Nat->Nat) (W H:Nat) (P:Nat->Nat->zk) (c:zk) (w:World) (h:PcM w po lb lc W H P) (hn:y0+n=H) (hW:1<=W) (hW2:W<=1000) (hH:H<=1000) (hoff:n=0\/off=y0):
 Calls Tryz.prog 220 #[.slice (some ⟨po,off,none⟩) n pc,c.agg] w λe w'=>e=.returned (.bool (zdt P W H y0 c))/\Below w.heap.size w w':=by
 have HH:=zH h;have Hall:Hid (zdt P W H y0 c=(List.range n).all (λi=>zpd P W c (y0+i))):=by
  show zdt P W H y0 c=_;unfold zdt;rw[show H-y0=n by omega];rfl
 clear h;have Hoff:=zH hoff;clear hoff;obtain⟨M,hM⟩:∃M,w.heap.size=M:=⟨_,rfl⟩;have HM:=zH hM;go_in;go_wp2_with fail;have hA:∃wA,w.alloc (.cells #[.int .i32 c.r,.int .i64 c.p,.int .i64 c.n.f,.int .i64 c.n.b,.bool c.n.bo,.bool c.n.un,.bool c.n.re] 38)=wA/\Below w.heap.size w wA/\zv wA M 0 c/\wA.heap.size=M+1:=by
  subst hM;exact⟨_,rfl,(Below.refl _ _).alloc (Nat.le_refl _) _,zcq w c c.p rfl _,by simp⟩
 obtain⟨wA,hwA,belA,cA,zA⟩:=hA;rw[hwA];have HA:Hid (Below w.heap.size w wA/\PcM wA po lb lc W H P):=⟨belA,HH.out.below belA⟩;have HcA:=zH cA;clear hwA belA cA HH;go_loopw[9] (λvi wr=>∃k:Nat,vi=.int .i64 k/\k<=n/\(∀i,i<k->zpd P W c (y0+i)=true)/\Below wA.heap.size wA wr) (λvi _=>n-(intOf vi).toNat)
 case atStart=>exact⟨0,rfl,Nat.zero_le _,λi hi=>absurd hi (Nat.not_lt_zero _),Below.refl _ _⟩
 case round=>
  obtain⟨k,rfl,hk,hr,hbw⟩:=hrel;have HB:=zH hbw;have HW:Hid (Below w.heap.size w wr/\PcM wr po lb lc W H P):=⟨HA.out.1.trans (hbw.mono HA.out.1.size),HA.out.2.below hbw⟩;have HcW:=zH<|HcA.out.below hbw (by omega)
  clear hbw HA HcA;have Hr:=zH hr;clear hr;by_cases hc:k<n
  ·have hoff2:y0=off:=by have:=Hoff.out;omega
   subst hoff2;have hc':(k:Int)<(n:Int):=by omega
   have hW0:(0:Int)<(W:Int):=by omega
   have r0:=HW.out.2.row (y0+k) (by omega);obtain⟨a0,a1,a2,a3,a4,a5,a6⟩:=HW.out.2.cel (y0+k) 0 (by omega) hW;obtain⟨b0,b1,b2,b3,b4,b5,b6⟩:=HcW.out;have hne:=λw=>zcO (P 0 (y0+k)) c w;simp only[Nat.zero_mul,Nat.zero_add] at a0 a1 a2 a3 a4 a5 a6 b0 b1 b2 b3 b4 b5 b6;have HL:Hid (∀q,Calls Tryz.prog 219 #[.slice (some ⟨lb (y0+k),0,none⟩) W (lc (y0+k))] (wr.drewN q) λe w'=>e=.returned (.int .i64 (zaI P W 0 (y0+k):Nat))/\∃m,w'=(wr.drewN q).drewN m):=λq=>zrl (lb (y0+k)) 0 W (lc (y0+k)) (λi=>P i (y0+k)) (wr.drewN q) (λi hi=>by rw[Nat.zero_add];exact(HW.out.2.cel (y0+k) i (by omega) hi).drewN q) (by omega);have hal:zaI P W 0 (y0+k)<=W:=by have:=zmv (λi=>(P i (y0+k)).eqB (P 0 (y0+k))) (W-0) 0;exact this
   obtain⟨al,hal2⟩:∃al,zaI P W 0 (y0+k)=al:=⟨_,rfl⟩;have Hone:Hid (zpd P W c (y0+k)=((P 0 (y0+k)).eqB c&&decide (W<=al))):=by rw[←hal2];rfl
   rw[hal2] at hal HL;clear hal2;cases he:(P 0 (y0+k)).eqB c with
   |false=>
    have He:Hid (zpd P W c (y0+k)=false):=by
     show _=_;rw[Hone.out,he];rfl
    simp only[he,Bool.not_false] at hne;clear he;go_wp2_with fail;go_quiet ((go_at_call 219;exact Calls.quiet_of (HL.out _)));go_wp2_with fail;go_ret;exact⟨by rw[Hall.out,zlz hc He.out];rfl,by first|exact zcM HW.out.1 _|(rw[←HM.out];exact zcM HW.out.1 _)⟩
   |true=>
    simp only[he,Bool.not_true] at hne;by_cases hl:al<W
    ·have hl':(al:Int)<(W:Int):=by omega
     have He:Hid (zpd P W c (y0+k)=false):=by
      show _=_;rw[Hone.out,he,decide_eq_false (by omega)];rfl
     clear he hl hal;have hWn:0<W:=hW;go_wp2_with fail;go_quiet ((go_at_call 219;exact Calls.quiet_of (HL.out _)));go_wp2_with fail;go_ret;exact⟨by rw[Hall.out,zlz hc He.out];rfl,by first|exact zcM HW.out.1 _|(rw[←HM.out];exact zcM HW.out.1 _)⟩
    ·have hl':¬((al:Int)<(W:Int)):=by omega
     have He:Hid (zpd P W c (y0+k)=true):=by
      show _=_;rw[Hone.out,he,decide_eq_true (by omega)];rfl
     clear he hl hal;have hWn:0<W:=hW;go_wp2_with fail;go_quiet ((go_at_call 219;exact Calls.quiet_of (HL.out _)));go_wp2_with fail;go_roundw
     case rel=>exact⟨k+1,by go_num,by omega,λi hi=>by
      by_cases e:i<k
      ·exact Hr.out i e
      ·rw[show i=k by omega];exact He.out,zcM HB.out _⟩
     case measure=>simp[intOf];omega
  ·have ek:k=n:=by omega
   have Hek:=zH ek;have hc':¬((k:Int)<(n:Int)):=by omega
   clear ek;go_wp2_with fail;go_ret;exact⟨by rw[Hall.out,zrp (λi hi=>Hr.out i (by rw[Hek.out];exact hi))];rfl,by first|exact HW.out.1|(rw[←HM.out];exact HW.out.1)⟩
end
end Go.Proofs.YtjlfibhbfdckpaaGreatDoor
