import Derived.Test.YtjlfibhbfdckpaaGreatDoorV30
import Derived.Test.YtjlfibhbfdckpaaGreatDoorV35
import Derived.Shelf.Strings.OnBuilder
import Derived.Shelf.Strconv.Itoa3
namespace Go.Proofs.YtjlfibhbfdckpaaGreatDoor
set_option maxHeartbeats 64000000
set_option maxRecDepth 100000
section
open Wd (wd)
section
variable {L:List Wn} {rk:Int->Nat} {K:Nat}
theorem zfR (T:ZR L rk K):∀(f:Nat) (v:Wn) (x y:Int),v∈L->K<=rk v.n+f->Sub L v.n (zaf L f v x y).1.n:=by
 intro f;induction f with
 |zero=>intro v x y _ _;exact .refl
 |succ f ih=>
  intro v x y hv hk;rw[T.ownSucc hv hk];cases hn:zcw L v.n x y with
  |none=>exact .refl
  |some u=>
   obtain⟨hu,hp,_,_⟩:=zcX hn;have:=(T.up u hu (by have:=T.pos hv;omega)).2;rw[hp] at this;have h1:=ih u (x-u.x) (y-u.y) hu (by omega);have h2:Sub L v.n u.n:=.step hu (by rw[hp];exact .refl);exact h2.trans h1
theorem zsH (T:ZR L rk K):∀(f:Nat) (v:Wn) (x y x' y':Int),v∈L->K<=rk v.n+f->(zaf L f v x y).1.n=(zaf L f v x' y').1.n →
 (zaf L f v x y).2.1-x=(zaf L f v x' y').2.1-x'/\(zaf L f v x y).2.2-y=(zaf L f v x' y').2.2-y':=by
 intro f;induction f with
 |zero=>intro v x y x' y' _ _ _;exact⟨by show x-x=x'-x';omega,by show y-y=y'-y';omega⟩
 |succ f ih=>
  intro v x y x' y' hv hk he;have hv0:=T.pos hv;have hup:∀ {a b:Int} {u:Wn},zcw L v.n a b=some u->u∈L/\u.par=v.n/\rk v.n<rk u.n:=fun {a b u} q=>by
   obtain⟨hu,hp,_,_⟩:=zcX q;have:=(T.up u hu (by omega)).2;rw[hp] at this;exact⟨hu,hp,this⟩
  rw[T.ownSucc hv hk] at he ⊢;rw[T.ownSucc hv hk] at he ⊢;cases hn:zcw L v.n x y with
  |none=>
   rw[hn] at he;cases hn':zcw L v.n x' y' with
   |none=>exact⟨by show x-x=x'-x';omega,by show y-y=y'-y';omega⟩
   |some u'=>
    rw[hn'] at he;obtain⟨hu,hp,hr⟩:=hup hn';have hs:=(zfR T f u' (x'-u'.x) (y'-u'.y) hu (by omega)).rank T (T.pos hu);have he':v.n=(zaf L f u' (x'-u'.x) (y'-u'.y)).1.n:=he;rw[←he'] at hs;omega
  |some u=>
   rw[hn] at he;obtain⟨hu,hp,hr⟩:=hup hn;cases hn':zcw L v.n x' y' with
   |none=>
    rw[hn'] at he;have hs:=(zfR T f u (x-u.x) (y-u.y) hu (by omega)).rank T (T.pos hu);have he':(zaf L f u (x-u.x) (y-u.y)).1.n=v.n:=he;rw[he'] at hs;omega
   |some u'=>
    rw[hn'] at he;obtain⟨hu',hp',hr'⟩:=hup hn';have he':(zaf L f u (x-u.x) (y-u.y)).1.n=(zaf L f u' (x'-u'.x) (y'-u'.y)).1.n:=he;have hs:=zfR T f u (x-u.x) (y-u.y) hu (by omega);have hs':=zfR T f u' (x'-u'.x) (y'-u'.y) hu' (by omega);rw[←he'] at hs';have hne:∀ {a b:Wn},a∈L->b∈L->a.par=v.n->b.par=v.n->rk v.n<rk a.n->Sub L a.n b.n->a=b:=by
     intro a b ha hb hap hbp har hab;rcases hab.last with e|⟨c,hc,e,hac⟩
     ·exact(zak T.nd hb ha e).symm
     ·have:c=b:=zak T.nd hc hb e;rw[this,hbp] at hac;have:=(hac.rank T (T.pos ha)).1;omega
    have huu:u=u':=by
     rcases Sub.chain T hs hs' with q|q
     ·exact hne hu hu' hp hp' hr q
     ·exact(hne hu' hu hp' hp hr' q).symm
    subst huu;have:=ih u (x-u.x) (y-u.y) (x'-u.x) (y'-u.y) hu (by omega) he';show(zaf L f u (x-u.x) (y-u.y)).2.1-x=(zaf L f u (x'-u.x) (y'-u.y)).2.1-x'/\(zaf L f u (x-u.x) (y-u.y)).2.2-y=(zaf L f u (x'-u.x) (y'-u.y)).2.2-y';omega
def zqI (L:List Wn):Prop:=∀v∈L,zeG v.W v.H v.G
theorem zup (T:ZR L rk K) (hw:zqI L) {r:Wn} (hr:r∈L):zeG r.W r.H (λx y=>zcx L K r x y):=by
 have hK:K<=rk r.n+K:=by omega
 have fact:∀x y:Nat,x<r.W->y<r.H->∃o:Wn,∃a b:Nat,o∈L/\a<o.W/\b<o.H/\zaf L K r x y=(o,(a:Int),(b:Int)):=by
  intro x y hx hy;obtain⟨h1,h2⟩:=T.ownIn K r x y hr hK (zu.2 (by omega));obtain⟨a0,a1,b0,b1⟩:=zu.1 h2;refine⟨_,(zaf L K r x y).2.1.toNat,(zaf L K r x y).2.2.toNat,h1,by omega,by omega,?_⟩;have e1:((zaf L K r x y).2.1.toNat:Int)=(zaf L K r x y).2.1:=by omega
  have e2:((zaf L K r x y).2.2.toNat:Int)=(zaf L K r x y).2.2:=by omega
  rw[e1,e2]
 have val:∀x y:Nat,∀ {o:Wn} {a b:Nat},zaf L K r x y=(o,(a:Int),(b:Int))->zcx L K r x y=if (o.G a b).p=1 then za6 L K r o (o.G a b) ((x:Int)+1) y else if (o.G a b).p=2 then za6 L K r o (o.G a b) ((x:Int)-1) y else o.G a b:=by
  intro x y o a b e;unfold zcx;rw[e];simp only[Int.toNat_natCast]
 have half:∀(x y x':Nat) {o:Wn} {a b:Nat},x<r.W->y<r.H->zaf L K r x y=(o,(a:Int),(b:Int))->o∈L->inG r.W r.H x' y=true->(zaf L K r x' y).1.n=o.n->zaf L K r x' y=(o,(a:Int)+(x'-x),(b:Int)):=by
  intro x y x' o a b hx hy e ho hin hn;have hx':x'<r.W:=by have:=zu.1 hin;omega
  obtain⟨o',a',b',ho',_,_,e'⟩:=fact x' y hx' hy;rw[e'] at hn;have heq:=zak T.nd ho' ho hn;subst heq;have:=zsH T K r x y x' y hr hK (by rw[e,e']);rw[e,e'] at this;rw[e'];have h1:(a':Int)=(a:Int)+(x'-x):=by have:=this.1;simp only at this;omega
  have h2:(b':Int)=(b:Int):=by have:=this.2;simp only at this;omega
  rw[h1,h2]
 have blanks:∀(c:zk),(blk c.n).p=0/\wd (blk c.n).r=1:=λc=>⟨rfl,ze6⟩;refine⟨⟨λx y hx hy=>?_,λx y hx hy hp=>?_,λx y hx hy hp=>?_⟩,λx y hx hy=>?_⟩
 ·obtain⟨o,a,b,ho,ha,hb,e⟩:=fact x y hx hy;have W:=(hw o ho).wf;rw[val x y e];rcases W.part a b ha hb with⟨p,q⟩|⟨p,q⟩|⟨p,q⟩
  ·rw[if_neg (by rw[p];decide),if_neg (by rw[p];decide)];exact .inl ⟨p,q⟩
  ·rw[if_pos p];unfold za6;split
   ·exact .inr (.inl ⟨p,q⟩)
   ·exact .inl (blanks _)
  ·rw[if_neg (by rw[p];decide),if_pos p];unfold za6;split
   ·exact .inr (.inr ⟨p,q⟩)
   ·exact .inl (blanks _)
 ·obtain⟨o,a,b,ho,ha,hb,e⟩:=fact x y hx hy;have W:=(hw o ho).wf;rw[val x y e] at hp ⊢;rcases W.part a b ha hb with⟨p,q⟩|⟨p,q⟩|⟨p,q⟩
  ·rw[if_neg (by rw[p];decide),if_neg (by rw[p];decide),p] at hp;exact absurd hp (by decide)
  ·rw[if_pos p] at hp ⊢;unfold za6 at hp ⊢;split at hp
   ·rename_i hc;rw[if_pos hc];obtain⟨ht1,ht2⟩:=W.head a b ha hb p;have hin:=hc.1;have hx1:x+1<r.W:=by have:=zu.1 hin;omega
    have e2:=half x y (x+1) hx hy e ho (zu.2 (by omega)) hc.2;have e3:zaf L K r ((x+1:Nat):Int) y=(o,((a+1:Nat):Int),(b:Int)):=by
     rw[e2];congr 1;congr 1;omega
    refine⟨hx1,?_⟩;rw[val (x+1) y e3,ht2];rw[if_neg (by simp),if_pos rfl];unfold za6;have hb':((x+1:Nat):Int)-1=(x:Int):=by omega
    rw[hb',if_pos ⟨zu.2 (by omega),by rw[e]⟩]
   ·exact absurd (show(0:Int)=1 from hp) (by decide)
  ·rw[if_neg (by rw[p];decide),if_pos p] at hp;unfold za6 at hp;split at hp
   ·rw[p] at hp;exact absurd hp (by decide)
   ·exact absurd (show(0:Int)=1 from hp) (by decide)
 ·obtain⟨o,a,b,ho,ha,hb,e⟩:=fact x y hx hy;have W:=(hw o ho).wf;rw[val x y e] at hp ⊢;rcases W.part a b ha hb with⟨p,q⟩|⟨p,q⟩|⟨p,q⟩
  ·rw[if_neg (by rw[p];decide),if_neg (by rw[p];decide),p] at hp;exact absurd hp (by decide)
  ·rw[if_pos p] at hp;unfold za6 at hp;split at hp
   ·rw[p] at hp;exact absurd hp (by decide)
   ·exact absurd (show(0:Int)=2 from hp) (by decide)
  ·rw[if_neg (by rw[p];decide),if_pos p] at hp ⊢;unfold za6 at hp ⊢;split at hp
   ·rename_i hc;rw[if_pos hc];obtain⟨ht1,ht2⟩:=W.tail a b ha hb p;have hin:=hc.1;have hx1:1<=x:=by have:=zu.1 hin;omega
    have ex:((x-1:Nat):Int)=(x:Int)-1:=by omega
    have e2:=half x y (x-1) hx hy e ho (zu.2 (by omega)) (by rw[ex];exact hc.2);have e3:zaf L K r ((x-1:Nat):Int) y=(o,((a-1:Nat):Int),(b:Int)):=by
     rw[e2];congr 1;congr 1;omega
    refine⟨hx1,?_⟩;rw[val (x-1) y e3,ht2];rw[if_pos rfl];unfold za6;have hb':((x-1:Nat):Int)+1=(x:Int):=by omega
    rw[hb',if_pos ⟨zu.2 (by omega),by rw[e]⟩]
   ·exact absurd (show(0:Int)=2 from hp) (by decide)
 ·obtain⟨o,a,b,ho,ha,hb,e⟩:=fact x y hx hy;have hn:=(hw o ho).pen a b ha hb;rw[val x y e];split
  ·unfold za6;split
   ·exact hn
   ·exact hn
  ·split
   ·unfold za6;split
    ·exact hn
    ·exact hn
   ·exact hn
end
def zbP (W H:Nat) (G:Nat->Nat->zk):Prop:=∀a b,a<W->b<H->(G a b).n.Ok
def zah (L:List Wn):Prop:=∀v∈L,zbP v.W v.H v.G
theorem zfS:Pn.plain.Ok:=by unfold Pn.Ok Pn.plain;decide
theorem znx {p:Pn} (h:zdA p=true):p.Ok:=zpK.1 h
theorem zhV (W H:Nat):zbP W H (λ_ _=>blk Pn.plain):=λ_ _ _ _=>zfS
section
variable {W H:Nat} {G:Nat->Nat->zk}
theorem zbP.upd (h:zbP W H G) (x y:Nat) {c:zk} (hc:c.n.Ok):zbP W H (upd G x y c):=λa b ha hb=>by
 unfold Go.Proofs.YtjlfibhbfdckpaaGreatDoor.upd;split
 ·exact hc
 ·exact h a b ha hb
theorem zbP.set (h:zbP W H G) (x y:Int) {c:zk} (hc:c.n.Ok):zbP W H (setG W H G x y c):=by
 unfold setG;split
 ·rename_i hin;have hin:=zu.1 hin;have h1:(G x.toNat y.toNat).n.Ok:=h _ _ (by omega) (by omega);split
  ·exact(h.upd _ _ (by rw[zgv];exact h1)).upd _ _ hc
  ·split
   ·exact(h.upd _ _ (by rw[zgv];exact h1)).upd _ _ hc
   ·exact h.upd _ _ hc
 ·exact h
theorem zbP.write (h:zbP W H G) (x y r:Int) {p:Pn} (hp:p.Ok):zbP W H (zR W H G x y r p):=by
 unfold zR;split
 ·exact h.set x y hp
 ·have h2:=(h.set x y (c:=blk p) (by rw[zgv];exact hp)).set (x+1) y (c:=blk p) (by rw[zgv];exact hp);split
  ·exact(h2.upd _ _ hp).upd _ _ hp
  ·exact h2
theorem zbP.writeAll {y:Int} {p:Pn} (hp:p.Ok):∀(l:List Int) (x:Int) {G:Nat->Nat->zk},zbP W H G->zbP W H (Go.Proofs.YtjlfibhbfdckpaaGreatDoor.writeAll W H y p x l G)
 |[],_,_,h=>h
 |r::l,x,_,h=>zbP.writeAll hp l (x+wd r) (h.write x y r hp)
theorem zbP.wrt (h:zbP W H G) (P:Nat->Nat->Bool) {v:Nat->Nat->zk} (hv:∀a b,a<W->b<H->P a b=true->(v a b).n.Ok):zbP W H (wrt G P v):=λa b ha hb=>by
 unfold Go.Proofs.YtjlfibhbfdckpaaGreatDoor.wrt;split
 ·rename_i hP;exact hv a b ha hb hP
 ·split
  ·rw[zgv];exact h a b ha hb
  ·exact h a b ha hb
theorem zbP.fill (h:zbP W H G) (x y ww hh:Int) {p:Pn} (hp:p.Ok):∀j,zbP W H (zaY W x y ww hh p G j):=by
 intro j;induction j with
 |zero=>exact h
 |succ j ih=>
  unfold zaY;split
  ·exact ih.wrt _ (λa b _ _ _=>by rw[zgv];exact hp)
  ·exact ih
theorem zbP.scroll (h:zbP W H G) (top bot n:Int) (ht:0<=top) (hb:bot<H) {p:Pn} (hp:p.Ok):zbP W H (zo top bot n p G):=λa b ha hb'=>by
 unfold zo;split
 ·split
  ·exact h _ _ ha (by omega)
  ·rw[zgv];exact hp
 ·exact h _ _ ha hb'
theorem zbP.sized (h:zbP W H G) (W' H':Nat):zbP W' H' (ZJ W H W' G):=λa b _ _=>by
 have h1:((if a<W/\b<H then G a b else blk Pn.plain):zk).n.Ok:=by
  split
  ·rename_i hc;exact h a b hc.1 hc.2
  ·exact zfS
 unfold ZJ zfA;simp only[];generalize (if a<W/\b<H then G a b else blk Pn.plain)=c at h1 ⊢;split
 ·rw[zgv];exact h1
 ·exact h1
end
section
variable {L:List Wn}
theorem zah.upd (h:zah L) (n:Int) {f:Wn->Wn} (hf:∀u∈L,u.n=n->zbP (f u).W (f u).H (f u).G):zah (zY L n f):=by
 intro v hv;unfold zY at hv;obtain⟨u,hu,rfl⟩:=List.mem_map.1 hv;split
 ·rename_i e;exact hf u hu e
 ·exact h u hu
theorem zah.filt (h:zah L) (p:Wn->Bool):zah (L.filter p):=λv hv=>h v (List.mem_filter.1 hv).1
theorem zah.del (h:zah L) (n:Int):zah (delL L n):=h.filt _
theorem zah.app (h:zah L) {v:Wn} (hv:zbP v.W v.H v.G):zah (L ++ [v]):=λu hu=>by
 rcases List.mem_append.1 hu with hu|hu
 ·exact h u hu
 ·obtain rfl:u=v:=by simpa using hu
  exact hv
theorem zah.top (h:zah L) {v:Wn} (hv:v∈L) (p:Int):zah (zcy L v p):=zah.app (h.filt _) (h v hv)
theorem zah.bot (h:zah L) {v:Wn} (hv:v∈L):zah (zcK L v):=by
 have h1:zah (zG L v.n):=h.filt _;unfold zcK;split
 ·intro u hu;obtain rfl:u=v:=by simpa using hu
  exact h _ hv
 ·rename_i r t e;rw[e] at h1;intro u hu;rcases List.mem_cons.1 hu with rfl|hu
  ·exact h1 _ List.mem_cons_self
  ·rcases List.mem_cons.1 hu with rfl|hu
   ·exact h _ hv
   ·exact h1 u (List.mem_cons_of_mem _ hu)
theorem zk7 (W H:Nat):zah [Zd W H]:=λv hv=>by
 obtain rfl:v=Zd W H:=by simpa using hv
 exact zhV W H
end
def Fits (L:List Wn) (W H:Nat):Prop:=∀r∈L,r.n=0->r.W=W/\r.H=H
section
variable {L:List Wn} {W H:Nat}
theorem Fits.upd (h:Fits L W H) (n:Int) {f:Wn->Wn} (hf:∀u∈L,u.n=n->(f u).n=0->u.n=0/\(f u).W=u.W/\(f u).H=u.H):Fits (zY L n f) W H:=by
 intro v hv;unfold zY at hv;obtain⟨u,hu,rfl⟩:=List.mem_map.1 hv;split
 ·rename_i e;intro h0;obtain⟨a,b,c⟩:=hf u hu e h0;rw[b,c];exact h u hu a
 ·exact h u hu
theorem Fits.filt (h:Fits L W H) (p:Wn->Bool):Fits (L.filter p) W H:=λv hv=>h v (List.mem_filter.1 hv).1
theorem Fits.del (h:Fits L W H) (n:Int):Fits (delL L n) W H:=h.filt _
theorem Fits.app (h:Fits L W H) {v:Wn} (hv:v.n=0->v.W=W/\v.H=H):Fits (L ++ [v]) W H:=λu hu=>by
 rcases List.mem_append.1 hu with hu|hu
 ·exact h u hu
 ·obtain rfl:u=v:=by simpa using hu
  exact hv
theorem Fits.top (h:Fits L W H) {v:Wn} (hv:v∈L) (p:Int):Fits (zcy L v p) W H:=Fits.app (h.filt _) (h v hv)
theorem Fits.bot (h:Fits L W H) {v:Wn} (hv:v∈L):Fits (zcK L v) W H:=by
 have h1:Fits (zG L v.n) W H:=h.filt _;unfold zcK;split
 ·intro u hu;obtain rfl:u=v:=by simpa using hu
  exact h _ hv
 ·rename_i r t e;rw[e] at h1;intro u hu;rcases List.mem_cons.1 hu with rfl|hu
  ·exact h1 _ List.mem_cons_self
  ·rcases List.mem_cons.1 hu with rfl|hu
   ·exact h _ hv
   ·exact h1 u (List.mem_cons_of_mem _ hu)
end
theorem zmw {s:Rs} (h:s.Fl) {W H:Nat} (w1:1<=W) (w2:W<=40) (h1:1<=H) (h2:H<=20):(zaB s W H).Fl:=
 ⟨zcT h.ok w1 w2 h1 h2,h.B,rfl,rfl,h.pen⟩
theorem zsI {W H:Nat} (w1:1<=W) (w2:W<=40) (h1:1<=H) (h2:H<=20):(zfh W H).Fl:=
 ⟨zg4 w1 w2 h1 h2,rfl,rfl,rfl,zfS⟩
def zgZ (x y:Int) (s:Rs):Rs:=if ZC x y=true then zaB s x.toNat y.toNat else s
theorem zI.winsOk {w:World} {M:Mm} {L:List Wn} {last:Int} {N:Nat} {s:Rs} {t:Pt} (h:zI w M L last N s t) (p:zah L):zqI L:=λv hv=>⟨(h.win v hv).wf,p v hv⟩
end
section
open Go.RowKit
attribute [local go_sem ↓] Go.wp_at_zero Go.wp_at_succ
theorem zcM {B:Nat} {a b:World} (h:Below B a b) (n:Nat):Below B a (b.drewN n):=⟨h.os,h.tape,h.output,h.size,h.block⟩
abbrev Sp.agg (p:Sp):Value:=.agg #[.int .i64 p.x,.int .i64 p.y,.bool p.pend,.int .i64 p.pen.f,.int .i64 p.pen.b,.bool p.pen.bo,.bool p.pen.un,.bool p.pen.re]
abbrev Wy.agg (v:Wy):Value:=.agg #[.string ⟨v.b.toArray⟩,.int .i64 v.k,.int .i64 v.e.x,.int .i64 v.e.y,.bool v.e.pend,.int .i64 v.e.pen.f,.int .i64 v.e.pen.b,.bool v.e.pen.bo,.bool v.e.pen.un,.bool v.e.pen.re]
abbrev Gl.agg (g:Gl):Value:=.agg #[.int .i64 g.x,.int .i64 g.y,.int .i64 g.pen.f,.int .i64 g.pen.b,.bool g.pen.bo,.bool g.pen.un,.bool g.pen.re,.bool g.letter]
theorem zhX (p:Sp) (x y:Int) (w:World):
 Calls Tryz.prog 239 #[p.agg,.int .i64 x,.int .i64 y] w λe w'=>e=.returned (p.move x y).agg/\Below w.heap.size w w':=by
 go_in;go_wp2;exact bodyPost_ret (v:=(p.move x y).agg) (by simp[results,Tryz.results239,go_sem,Sp.move]) rfl ⟨rfl,((Below.refl _ _).alloc (Nat.le_refl _) _).alloc (by simp) _⟩
theorem zuu (p:Sp) (n:Pn) (w:World):
 Calls Tryz.prog 240 #[p.agg,n.agg] w λe w'=>e=.returned (p.ink n).agg/\Below w.heap.size w w':=by
 go_in;go_wp2;exact bodyPost_ret (v:=(p.ink n).agg) (by simp[results,Tryz.results240,go_sem,Sp.ink]) rfl ⟨rfl,(((Below.refl _ _).alloc (Nat.le_refl _) _).alloc (by simp) _).alloc (by simp;omega) _⟩
theorem zhY (p:Sp) (w:World) (h0:0<=p.y) (h1:p.y<=1000):
 Calls Tryz.prog 238 #[p.agg] w λe w'=>e=.returned (.tuple #[.int .i64 p.lx,.int .i64 p.ly])/\Below w.heap.size w w':=by
 obtain⟨x,y,pd,n⟩:=p;simp only at h0 h1;cases pd with
 |true=>
  go_in;go_wp2;go_quiet (fail);go_wp2;go_ret2;exact⟨by simp[Sp.lx,Sp.ly],zcM ((Below.refl _ _).alloc (Nat.le_refl _) _) _⟩
 |false=>
  go_in;go_wp2;go_quiet (fail);go_wp2;go_ret2;exact⟨by simp[Sp.lx,Sp.ly],zcM ((Below.refl _ _).alloc (Nat.le_refl _) _) _⟩
end
end Go.Proofs.YtjlfibhbfdckpaaGreatDoor
namespace Go.Proofs
set_option maxHeartbeats 64000000
set_option maxRecDepth 100000
open Go.Shelf
def Tryz.lays156_ren:Go.Shelf.Ren:=⟨fun|156=>232|165=>245|166=>215|169=>179|240=>231|241=>249|276=>244|277=>251|n=>n,fun|31=>229|9=>9|3=>3|4=>4|0=>0|20=>20|72=>192|76=>226|70=>190|37=>177|75=>225|127=>212|164=>274|5=>5|80=>56|n=>n,fun|n=>n⟩
theorem Tryz.lays156:Go.Proofs.Lays.n156 Tryz.prog Tryz.lays156_ren:={
 mixed:=by kernel_rfl
 f156:=Tryz.func232.trans (congrArg some (by kernel_rfl))
 f165:=Tryz.func245.trans (congrArg some (by kernel_rfl))
 f166:=Tryz.func215.trans (congrArg some (by kernel_rfl))
 f169:=Tryz.func179.trans (congrArg some (by kernel_rfl))
 f240:=Tryz.func231.trans (congrArg some (by kernel_rfl))
 f241:=Tryz.func249.trans (congrArg some (by kernel_rfl))
 f276:=Tryz.func244.trans (congrArg some (by kernel_rfl))
 f277:=Tryz.func251.trans (congrArg some (by kernel_rfl))
 t0:=Tryz.underlying0
 a0:=Tryz.isAgg0
 z0:=Tryz.sizeOf0
 v0:=Tryz.zeroValue0
 t3:=Tryz.underlying3
 a3:=Tryz.isAgg3
 z3:=Tryz.sizeOf3
 v3:=Tryz.zeroValue3
 t4:=Tryz.underlying4
 a4:=Tryz.isAgg4
 z4:=Tryz.sizeOf4
 v4:=Tryz.zeroValue4
 t9:=Tryz.underlying9
 a9:=Tryz.isAgg9
 z9:=Tryz.sizeOf9
 v9:=Tryz.zeroValue9
 t20:=Tryz.underlying20
 a20:=Tryz.isAgg20
 z20:=Tryz.sizeOf20
 v20:=Tryz.zeroValue20
 t31:=Tryz.underlying229
 a31:=Tryz.isAgg229
 z31:=Tryz.sizeOf229
 v31:=Tryz.zeroValue229
 t37:=Tryz.underlying177
 a37:=Tryz.isAgg177
 z37:=Tryz.sizeOf177
 v37:=Tryz.zeroValue177
 t70:=Tryz.underlying190
 a70:=Tryz.isAgg190
 z70:=Tryz.sizeOf190
 v70:=Tryz.zeroValue190
 t72:=Tryz.underlying192
 a72:=Tryz.isAgg192
 z72:=Tryz.sizeOf192
 v72:=Tryz.zeroValue192
 t75:=Tryz.underlying225
 a75:=Tryz.isAgg225
 z75:=Tryz.sizeOf225
 v75:=Tryz.zeroValue225
 t76:=Tryz.underlying226
 a76:=Tryz.isAgg226
 z76:=Tryz.sizeOf226
 v76:=Tryz.zeroValue226
 t127:=Tryz.underlying212
 a127:=Tryz.isAgg212
 z127:=Tryz.sizeOf212
 v127:=Tryz.zeroValue212
 t164:=Tryz.underlying274
 a164:=Tryz.isAgg274
 z164:=Tryz.sizeOf274
 v164:=Tryz.zeroValue274}
theorem Tryz.Builder_Extra_156:Builder.Extra Tryz.prog Tryz.lays156_ren:={
 sizeBuilder:=by kernel_rfl
 liesBuilder:=by kernel_rfl
 t5:=Tryz.underlying5
 a5:=Tryz.isAgg5
 z5:=Tryz.sizeOf5
 v5:=Tryz.zeroValue5
 infoByte:=by kernel_rfl
 cellsByte:=by kernel_rfl
 sizeByte:=by kernel_rfl
 neB5:=by decide}
open Go.RowKit in
theorem Tryz.strings_Join_none (a:Option Addr) (c:Nat) (sep:ByteArray) (w:World):
 Calls Tryz.prog 232 #[.slice a 0 c,.string sep] w λe w'=>e=.returned (.string ⟨#[]⟩)/\w'=w:=Any.strings_Join_none Tryz.lays156 Tryz.Builder_Extra_156 a c sep w
open Go.RowKit in
theorem Tryz.strings_Join (bk o c:Nat) (xs:List ByteArray) (sep:ByteArray) (w:World) (hcells:∀(j:Nat) x,xs[j]?=some x->w.cell? ⟨bk,o+j,none⟩=some (.string x)) (hbk:bk<w.heap.size) (hN:xs.length<=140737488355328) (hcap:xs.length<=c) (hlen:(Lib.join (xs.map (·.data.toList)) sep.data.toList).length<=140737488355328):
 Calls Tryz.prog 232 #[.slice (some ⟨bk,o,none⟩) xs.length c,.string sep] w λe w'=>e=.returned (.string ⟨(Lib.join (xs.map (·.data.toList)) sep.data.toList).toArray⟩)/\Below w.heap.size w w':=Any.strings_Join Tryz.lays156 Tryz.Builder_Extra_156 bk o c xs sep w hcells hbk hN hcap hlen
def Tryz.lays171_ren:Go.Shelf.Ren:=⟨fun|171=>236|243=>248|246=>250|283=>252|284=>253|285=>254|286=>255|129=>257|317=>256|318=>258|319=>259|320=>260|337=>261|338=>262|n=>n,fun|3=>3|9=>9|2=>2|4=>4|171=>278|0=>0|53=>279|37=>177|5=>5|173=>282|212=>285|51=>286|20=>20|213=>287|46=>273|232=>290|233=>291|n=>n,fun|17=>3|18=>4|19=>5|n=>n⟩
theorem Tryz.lays171:Go.Proofs.Lays.n171 Tryz.prog Tryz.lays171_ren:={
 mixed:=by kernel_rfl
 f129:=Tryz.func257.trans (congrArg some (by kernel_rfl))
 f171:=Tryz.func236.trans (congrArg some (by kernel_rfl))
 f243:=Tryz.func248.trans (congrArg some (by kernel_rfl))
 f246:=Tryz.func250.trans (congrArg some (by kernel_rfl))
 f283:=Tryz.func252.trans (congrArg some (by kernel_rfl))
 f284:=Tryz.func253.trans (congrArg some (by kernel_rfl))
 f285:=Tryz.func254.trans (congrArg some (by kernel_rfl))
 f286:=Tryz.func255.trans (congrArg some (by kernel_rfl))
 f317:=Tryz.func256.trans (congrArg some (by kernel_rfl))
 f318:=Tryz.func258.trans (congrArg some (by kernel_rfl))
 f319:=Tryz.func259.trans (congrArg some (by kernel_rfl))
 f320:=Tryz.func260.trans (congrArg some (by kernel_rfl))
 f337:=Tryz.func261.trans (congrArg some (by kernel_rfl))
 f338:=Tryz.func262.trans (congrArg some (by kernel_rfl))
 t0:=Tryz.underlying0
 a0:=Tryz.isAgg0
 z0:=Tryz.sizeOf0
 v0:=Tryz.zeroValue0
 t2:=Tryz.underlying2
 a2:=Tryz.isAgg2
 z2:=Tryz.sizeOf2
 v2:=Tryz.zeroValue2
 t3:=Tryz.underlying3
 a3:=Tryz.isAgg3
 z3:=Tryz.sizeOf3
 v3:=Tryz.zeroValue3
 t4:=Tryz.underlying4
 a4:=Tryz.isAgg4
 z4:=Tryz.sizeOf4
 v4:=Tryz.zeroValue4
 t5:=Tryz.underlying5
 a5:=Tryz.isAgg5
 z5:=Tryz.sizeOf5
 v5:=Tryz.zeroValue5
 t9:=Tryz.underlying9
 a9:=Tryz.isAgg9
 z9:=Tryz.sizeOf9
 v9:=Tryz.zeroValue9
 t20:=Tryz.underlying20
 a20:=Tryz.isAgg20
 z20:=Tryz.sizeOf20
 v20:=Tryz.zeroValue20
 t37:=Tryz.underlying177
 a37:=Tryz.isAgg177
 z37:=Tryz.sizeOf177
 v37:=Tryz.zeroValue177
 t46:=Tryz.underlying273
 a46:=Tryz.isAgg273
 z46:=Tryz.sizeOf273
 v46:=Tryz.zeroValue273
 t51:=Tryz.underlying286
 a51:=Tryz.isAgg286
 z51:=Tryz.sizeOf286
 v51:=Tryz.zeroValue286
 t53:=Tryz.underlying279
 a53:=Tryz.isAgg279
 z53:=Tryz.sizeOf279
 v53:=Tryz.zeroValue279
 t171:=Tryz.underlying278
 a171:=Tryz.isAgg278
 z171:=Tryz.sizeOf278
 v171:=Tryz.zeroValue278
 t173:=Tryz.underlying282
 a173:=Tryz.isAgg282
 z173:=Tryz.sizeOf282
 v173:=Tryz.zeroValue282
 t212:=Tryz.underlying285
 a212:=Tryz.isAgg285
 z212:=Tryz.sizeOf285
 v212:=Tryz.zeroValue285
 t213:=Tryz.underlying287
 a213:=Tryz.isAgg287
 z213:=Tryz.sizeOf287
 t232:=Tryz.underlying290
 a232:=Tryz.isAgg290
 z232:=Tryz.sizeOf290
 v232:=Tryz.zeroValue290
 t233:=Tryz.underlying291
 a233:=Tryz.isAgg291
 z233:=Tryz.sizeOf291
 v233:=Tryz.zeroValue291
 g17:=by kernel_rfl
 g18:=by kernel_rfl
 g19:=by kernel_rfl}
open Go.RowKit Go.Sort Go.Lib in
theorem Tryz.strconv_Itoa_small (i:Nat) (hi:i<100) (w:World):
 Calls Tryz.prog 236 #[.int .i64 i] w λe w'=>e=.returned (.string ⟨(Lib.decDigits i).toArray⟩)/\w'=w:=Any.strconv_Itoa_small Tryz.lays171 i hi w
end Go.Proofs
namespace Go.Proofs.YtjlfibhbfdckpaaGreatDoor
set_option maxHeartbeats 64000000
set_option maxRecDepth 100000
section
open Go.RowKit
attribute [local go_sem ↓] Go.wp_at_zero Go.wp_at_succ
abbrev zaD (l:List UInt8):Value:=.string ⟨l.toArray⟩
theorem zsM (w:World):Calls Tryz.prog 218 #[.int .i64 1] w λe w'=>e=.returned (zaD (zbd (zb7 1)))/\w'=w:=by
 go_in;go_wp2;go_ret;exact⟨rfl,rfl⟩
theorem zhZ (n:Int) (h0:0<=n) (h1:n<100) (w:World):Calls Tryz.prog 218 #[.int .i64 n] w λe w'=>e=.returned (zaD (zbd (zb7 n)))/\w'=w:=by
 by_cases h:n=1
 ·subst h;exact zsM w
 ·obtain⟨m,rfl⟩:=Int.eq_ofNat_of_zero_le h0;have hm:m<100:=by omega
  have hc:=Tryz.strconv_Itoa_small m hm;have ht:zbd (zb7 (m:Int))=Lib.decDigits m:=by unfold zb7;rw[if_neg h];rfl
  rw[ht];go_in;go_wp2_with (go_at_call 236;refine sM (hc _) ?_);go_ret;exact⟨rfl,rfl⟩
theorem zdK (a b:List UInt8):(⟨a.toArray⟩:ByteArray) ++ ⟨b.toArray⟩=⟨(a++b).toArray⟩:=by
 ext1;simp
theorem zgk (c:UInt8) (ts:List (Option Nat)) (bk o cap:Nat) (w:World) (ht:zbN ts) (hl:ts.length<=8) (hcap:ts.length<=cap) (hne:ts≠[])
 (hc:∀(j:Nat) t,ts[j]?=some t->w.cell? ⟨bk,o+j,none⟩=some (zaD (zbd t))):
 Calls Tryz.prog 216 #[zaD [c],.slice (some ⟨bk,o,none⟩) ts.length cap] w λe w'=>e=.returned (zaD (zaP c ts))/\Below w.heap.size w w':=by
 have hbk:bk<w.heap.size:=by
  cases ts with
  |nil=>exact absurd rfl hne
  |cons t r=>exact World.block_lt_of_cell? _ _ (hc 0 t rfl)
 have hlen:(Lib.join (ts.map zbd) [59]).length<=1000:=by
  cases ts with
  |nil=>exact absurd rfl hne
  |cons t r=>
   have:=zdl c t r ht;simp only[zaP,List.length_append,List.length_cons,List.length_nil] at this hl;omega
 have hj:=Tryz.strings_Join bk o cap (ts.map (λt=>(⟨(zbd t).toArray⟩:ByteArray))) ⟨#[59]⟩ w (by
  intro j x hx;rw[List.getElem?_map] at hx;cases ht':ts[j]? with
  |none=>rw[ht'] at hx;cases hx
  |some t=>rw[ht'] at hx;simp at hx;rw[←hx];exact hc j t ht') hbk (by simp;omega) (by simpa using hcap)
 have em:(ts.map (λt=>(⟨(zbd t).toArray⟩:ByteArray))).map (·.data.toList)=ts.map zbd:=by simp
 rw[em,List.length_map] at hj;have es:(⟨#[59]⟩:ByteArray).data.toList=[59]:=rfl;rw[es] at hj;have hj':=hj (by omega);have HJ:Hid (Calls Tryz.prog 232 #[.slice (some ⟨bk,o,none⟩) ts.length cap,.string ⟨#[59]⟩] w λe w'=>e=.returned (zaD (Lib.join (ts.map zbd) [59]))/\Below w.heap.size w w'):=hj';have HL:=zH hlen;clear hj hj' em es hc hlen;have hs1:(⟨#[27,91]⟩:ByteArray) ++ ⟨(Lib.join (ts.map zbd) [59]).toArray⟩=⟨([27,91]++Lib.join (ts.map zbd) [59]).toArray⟩:=zdK [27,91] _;have hs2:(⟨([27,91]++Lib.join (ts.map zbd) [59]).toArray⟩:ByteArray) ++ ⟨#[c]⟩=⟨(zaP c ts).toArray⟩:=zdK ([27,91]++Lib.join (ts.map zbd) [59]) [c];have HS:=zH<|hs1 ▸ hs2
 clear hs1 hs2;go_in;go_wp2_with fail;go_at_call 232;refine HJ.out.mono ?_;rintro e w1 ⟨rfl,hb⟩;have HB:=zH hb;clear hb;have hz:=HL.out;generalize Lib.join (ts.map zbd) [59]=J at *;go_wp2_with fail;go_ret;refine⟨?_,HB.out⟩;rw[HS.out];rfl
theorem zsN (w:World) (c:UInt8) (t:Option Nat) (ht:zbN [t]):
 Calls Tryz.prog 216 #[zaD [c],.slice (some ⟨w.heap.size,0,none⟩) 1 1] (w.alloc (.cells #[zaD (zbd t)] 9)) λe w'=>e=.returned (zaD (zaP c [t]))/\Below w.heap.size w w':=by
 refine(zgk c [t] w.heap.size 0 1 _ ht (by simp) (by simp) (by simp) ?_).mono ?_
 ·intro j u h;rw[za (zf w _)];match j with
  |0=>simp at h;simp[h]
  |j+1=>simp at h
 ·rintro e w' ⟨he,hb⟩;exact⟨he,((Below.refl _ _).alloc (Nat.le_refl _) _).trans (hb.mono (by simp))⟩
theorem zwL (w:World) (c:UInt8) (t u:Option Nat) (ht:zbN [t,u]):
 Calls Tryz.prog 216 #[zaD [c],.slice (some ⟨w.heap.size,0,none⟩) 2 2] (w.alloc (.cells #[zaD (zbd t),zaD (zbd u)] 9)) λe w'=>e=.returned (zaD (zaP c [t,u]))/\Below w.heap.size w w':=by
 refine(zgk c [t,u] w.heap.size 0 2 _ ht (by simp) (by simp) (by simp) ?_).mono ?_
 ·intro j v h;rw[za (zf w _)];match j with
  |0=>simp at h;simp[h]
  |1=>simp at h;simp[h]
  |j+2=>simp at h
 ·rintro e w' ⟨he,hb⟩;exact⟨he,((Below.refl _ _).alloc (Nat.le_refl _) _).trans (hb.mono (by simp))⟩
theorem zuv (w:World) (c:UInt8):
 Calls Tryz.prog 216 #[zaD [c],.slice none 0 0] w λe w'=>e=.returned (zaD (zaP c []))/\w'=w:=by
 have hj:=Tryz.strings_Join_none none 0 ⟨#[59]⟩;go_in;go_wp2_with (go_at_call 232;refine sM (hj _) ?_);go_ret;exact⟨rfl,rfl⟩
theorem zmx (n:Int) (a b:UInt8) (w:World) (h1:-100<n) (h2:n<100):
 Calls Tryz.prog 201 #[.int .i64 n,zaD [a],zaD [b]] w λe w'=>e=.returned (zaD (Zy n a b))/\Below w.heap.size w w':=by
 by_cases hn:n<0
 ·have e:Zy n a b=zaP b [zb7 (-n)]:=by unfold Zy;rw[if_pos hn]
  rw[e];have hs:=zsN w b (zb7 (-n)) (ZD (by omega) Z3);go_in;go_wp2_with (first|(go_at_call 218;refine sM (zhZ (-n) (by omega) (by omega) _) ?_)|(go_at_call 216;refine hs.mono ?_;rintro e w1 ⟨rfl,hb⟩));go_ret;exact⟨rfl,hb⟩
 ·have e:Zy n a b=zaP a [zb7 n]:=by unfold Zy;rw[if_neg hn]
  rw[e];have hs:=zsN w a (zb7 n) (ZD (by omega) Z3);go_in;go_wp2_with (first|(go_at_call 218;refine sM (zhZ n (by omega) (by omega) _) ?_)|(go_at_call 216;refine hs.mono ?_;rintro e w1 ⟨rfl,hb⟩));go_ret;exact⟨rfl,hb⟩
theorem zuw (x y:Int) (w:World) (x0:0<=x) (x1:x<40) (y0:0<=y) (y1:y<20):
 Calls Tryz.prog 222 #[.int .i64 x,.int .i64 y] w λe w'=>e=.returned (zaD (zag x y))/\Below w.heap.size w w':=by
 by_cases hx:x=0
 ·have e:zag x y=zaP 72 [zb7 (y+1)]:=by unfold zag;rw[if_pos hx]
  rw[e];have hs:=zsN w 72 (zb7 (y+1)) (ZD (by omega) Z3);go_in;go_wp2_with (first|(go_at_call 218;refine sM (zhZ (y+1) (by omega) (by omega) _) ?_)|(go_at_call 216;refine hs.mono ?_;rintro e w1 ⟨rfl,hb⟩));go_ret;exact⟨rfl,hb⟩
 ·have e:zag x y=zaP 72 [zb7 (y+1),zb7 (x+1)]:=by unfold zag;rw[if_neg hx]
  rw[e];have hs:=zwL w 72 (zb7 (y+1)) (zb7 (x+1)) (ZD (by omega) (ZD (by omega) Z3));go_in;go_wp2_with (first|(go_at_call 218;refine sM (zhZ _ (by omega) (by omega) _) ?_)|(go_at_call 216;refine hs.mono ?_;rintro e w1 ⟨rfl,hb⟩));go_ret;exact⟨rfl,hb⟩
theorem zmy:(Tryz.prog.info? 9).bind (·.zero)=some (.string ⟨#[]⟩):=by kernel_rfl
theorem zmz:(Tryz.prog.info? 9).map (·.size)=some 1:=by kernel_rfl
theorem zk8:(Tryz.prog.info? 9).map (·.bytes)=some 16:=by kernel_rfl
theorem zk9:∃i:TypeInfo,Tryz.prog.info? 9=some i/\i.zero=some (.string ⟨#[]⟩)/\i.size=1/\i.bytes=16:=by
 have h1:=zmy;have h2:=zmz;have h3:=zk8;cases h:Tryz.prog.info? 9 with
 |none=>rw[h] at h2;simp at h2
 |some i=>rw[h] at h1 h2 h3;exact⟨i,rfl,by simpa using h1,by simpa using h2,by simpa using h3⟩
def zdn (ts:List (Option Nat)):List Value:=ts.map (λt=>zaD (zbd t))
theorem zoI (a b:List (Option Nat)):zdn (a++b)=zdn a++zdn b:=by simp[zdn]
structure zeJ (w:World) (TB base n1:Nat) (own0:Option Nat) (ts:List (Option Nat)):Prop where
 box:∃v,w.heap[TB]?=some (.cells #[v] 229)/\w.ownsRow base 9 1 v ts.length (zdn ts)/\(v.ownBlock=own0\/∃g,v.ownBlock=some g/\n1<=g)/\v.ownBlock≠some TB
 hn:n1<=w.heap.size
 hb:base<=TB
 tb:TB<n1
 len:ts.length<=8
 toks:zbN ts
abbrev zi6 (TB n1:Nat) (own0:Option Nat) (w w':World):Prop:=zd (λi=>i=TB\/own0=some i\/n1<=i) w w'
theorem ZH {w w':World} {base:Nat} {e:TypeId} {size:Nat} {v:Value} {n:Nat} {xs:List Value} (h:w.ownsRow base e size v n xs) (hs:∀i,v.ownBlock=some i->w'.heap[i]?=w.heap[i]?):w'.ownsRow base e size v n xs:=by
 refine⟨h.1,?_⟩;rcases h.2 with h0|⟨g,cap,cur,rfl,h1,h2,h3⟩
 ·exact .inl h0
 ·exact .inr ⟨g,cap,cur,rfl,h1,by rw[hs g rfl];exact h2,h3⟩
theorem zoJ {w W w7:World} {TB base n1 g7 cap7:Nat} {own0:Option Nat} {ts:List (Option Nat)} {v:Value} {n:Nat} (hn:n<100) (HT:zeJ w TB base n1 own0 ts) (hl:ts.length<8)
 (hb:w7.heap[TB]?=some (.cells #[v] 229)) (hown:v.ownBlock=own0\/∃g,v.ownBlock=some g/\n1<=g) (hne:v.ownBlock≠some TB)
 (hK:zi6 TB n1 own0 w W) (hW:w.heap.size<=W.heap.size) (hg:W.grownBy w7 v.ownBlock) (hr:w7.ownsRow base 9 1 (.slice (some ⟨g7,0,none⟩) (ts.length+1) cap7) (ts.length+1) (zdn ts ++ [zaD (Lib.decDigits n)])) (ho:v.ownBlock=some g7\/g7=W.heap.size):
 zeJ (w7.setCell ⟨TB,0,none⟩ (.slice (some ⟨g7,0,none⟩) (ts.length+1) cap7)) TB base n1 own0 (ts ++ [some n])/\zi6 TB n1 own0 w (w7.setCell ⟨TB,0,none⟩ (.slice (some ⟨g7,0,none⟩) (ts.length+1) cap7)):=by
 have hg7:g7≠TB:=by
  rcases ho with e|e
  ·intro q;exact hne (by rw[e,q])
  ·have:=HT.tb;have:=HT.hn;omega
 refine⟨⟨⟨.slice (some ⟨g7,0,none⟩) (ts.length+1) cap7,zg hb 0 _,?_,?_,?_⟩,?_,HT.hb,HT.tb,by simp;omega,?_⟩,?_⟩
 ·rw[zoI,List.length_append];exact ZH hr (λi hi=>Below.heap_setCell _ _ _ _ (by
   obtain rfl:g7=i:=by simpa[Value.ownBlock] using hi
   exact hg7))
 ·rcases ho with e|e
  ·rcases hown with q|⟨g,q,h1⟩
   ·exact .inl (by rw[←q,e];rfl)
   ·exact .inr ⟨g7,rfl,by rw[e] at q;cases q;exact h1⟩
  ·exact .inr ⟨g7,rfl,by have:=HT.hn;omega⟩
 ·simp[Value.ownBlock];exact hg7
 ·have:(w7.setCell ⟨TB,0,none⟩ (.slice (some ⟨g7,0,none⟩) (ts.length+1) cap7)).heap.size=w7.heap.size:=by simp[World.setCell]
  rw[this];have:=hg.size;have:=HT.hn;omega
 ·intro m hm;rcases List.mem_append.1 hm with e|e
  ·exact HT.toks m e
  ·simp at e;omega
 ·refine(hK.grown hg (λk hk _=>?_)).setCell _ _ (λ_=>.inl rfl);rcases hown with q|⟨g,q,h1⟩
  ·exact .inr (.inl (by rw[←q,hk]))
  ·rw[hk] at q;cases q;exact .inr (.inr h1)
theorem zvL (n:Nat) (TB base n1:Nat) (own0:Option Nat) (ts:List (Option Nat)) (w:World) (hn:n<100) (h:zeJ w TB base n1 own0 ts) (hl:ts.length<8):
 Calls Tryz.prog 235 #[.int .i64 n,.pointer (some ⟨TB,0,none⟩)] w λe w'=>e=.returned (.tuple #[])/\zeJ w' TB base n1 own0 (ts ++ [some n])/\zi6 TB n1 own0 w w':=by
 obtain⟨v,hb,hrow,hown,hne⟩:=h.box;obtain⟨ti,i1,i2,i3,i4⟩:=zk9;have hc:=Tryz.strconv_Itoa_small n hn;have c0:w.cell? ⟨TB,0,none⟩=some v:=by rw[za hb];rfl
 have fr:=ze hb;have htb:=Nat.lt_of_lt_of_le h.tb h.hn;have hbs:=h.hb;have Hrow:=zH hrow;have Hb:=zH hb;have HT:=zH h;have Hown:=zH hown;have Hne:=zH hne;clear hrow hb hown hne h;go_in;go_wp2_with fail;go_region_law (first|(go_simp;go_at_call 236;refine sM (hc _) ?_)|(refine step_append_lies _ (by rfl) (.tmp 3) (.tmp 6) 229 (by rfl) base 9 ti _ 1 16 Tryz.underlying229 i1 i2 i3 i4 rfl (by decide) v ts.length (zdn ts) (by simp[Act.eval]) (ZH Hrow.out (λi hi=>Below.heap_alloc w _ _ (Hrow.out.lt i hi).2)) ⟨w.heap.size,0,none⟩ 1 1 [zaD (Lib.decDigits n)] (by simp[Act.eval]) rfl (World.news_of_block (zf w _)) (by simp[Value.oneCell']) (by decide) (by unfold maxLen;omega) (by omega) (by simp;omega) _ rfl ?_;intro g7 cap7 w7 hr7 hg7 ho7 hl7;have hbk:=(hg7.block _ (by simp;omega) (λe=>Hne.out e.symm)).trans ((Below.heap_alloc w _ _ htb).trans Hb.out);have c7:w7.cell? ⟨TB,0,none⟩=some v:=za hbk 0;have f7:=ze hbk 0));all_goals
  obtain⟨T8,K8⟩:=zoJ (W:=(w.alloc (.cells #[zaD (Lib.decDigits n)] 9)).drew) hn HT.out hl hbk Hown.out Hne.out ((zd.refl _ w).alloc _).drew (by simp) hg7 hr7 ho7;have HT8:=zH T8;have HK8:=zH K8;clear T8 K8 hg7 hr7 ho7;go_wp2_with fail;go_end0;exact⟨rfl,HT8.out,HK8.out⟩
abbrev zmA (TB:Nat):Value:=.func (.func 235) #[] #[.pointer (some ⟨TB,0,none⟩)]
def zc8 (TB base n1:Nat) (own0:Option Nat) (ts:List (Option Nat)) (w:World) (e:Ending) (w':World):Prop:=
 e=.returned (.tuple #[])/\zeJ w' TB base n1 own0 ts/\zi6 TB n1 own0 w w'
theorem zmB (was is:Bool) (on off:Nat) (bw bi bo bf:Nat) (TB base n1:Nat) (own0:Option Nat) (ts:List (Option Nat)) (w:World) (hon:on<100) (hoff:off<100) (h:zeJ w TB base n1 own0 ts) (hl:ts.length<8)
 (cw:w.cell? ⟨bw,0,none⟩=some (.bool was)) (ci:w.cell? ⟨bi,0,none⟩=some (.bool is)) (co:w.cell? ⟨bo,0,none⟩=some (.int .i64 on)) (cf:w.cell? ⟨bf,0,none⟩=some (.int .i64 off)):
 Calls Tryz.prog 246 #[zmA TB,.pointer (some ⟨bi,0,none⟩),.pointer (some ⟨bw,0,none⟩),.pointer (some ⟨bo,0,none⟩),.pointer (some ⟨bf,0,none⟩)] w (zc8 TB base n1 own0 (ts++ZV was is on off) w):=by
 have HT:=zH h;have Ha:Hid (∀n:Nat,n<100->Calls Tryz.prog 235 #[.int .i64 n,.pointer (some ⟨TB,0,none⟩)] w (zc8 TB base n1 own0 (ts ++ [some n]) w)):=λn hn=>zvL n TB base n1 own0 ts w hn HT.out hl;clear h;cases was<;>cases is
 ·have e:ts++ZV false false on off=ts:=by simp[ZV]
  rw[e];go_in;go_wp2_with fail;go_end0;exact⟨rfl,HT.out,zd.refl _ _⟩
 ·have e:ts++ZV false true on off=ts ++ [some on]:=by simp[ZV]
  rw[e];go_in;go_wp2_with fail;go_at_call 235;refine(Ha.out on hon).mono ?_;rintro e w1 ⟨rfl,h1,h2⟩;have H1:Hid (zc8 TB base n1 own0 (ts ++ [some on]) w (.returned (.tuple #[])) w1):=⟨rfl,h1,h2⟩;clear h1 h2;go_wp2_with fail;go_end0;exact H1.out
 ·have e:ts++ZV true false on off=ts ++ [some off]:=by simp[ZV]
  rw[e];go_in;go_wp2_with fail;go_at_call 235;refine(Ha.out off hoff).mono ?_;rintro e w1 ⟨rfl,h1,h2⟩;have H1:Hid (zc8 TB base n1 own0 (ts ++ [some off]) w (.returned (.tuple #[])) w1):=⟨rfl,h1,h2⟩;clear h1 h2;go_wp2_with fail;go_end0;exact H1.out
 ·have e:ts++ZV true true on off=ts:=by simp[ZV]
  rw[e];go_in;go_wp2_with fail;go_end0;exact⟨rfl,HT.out,zd.refl _ _⟩
theorem zla (was is:Int) (first:Nat) (bw bi bf:Nat) (TB base n1:Nat) (own0:Option Nat) (ts:List (Option Nat)) (w:World) (h0:0<=is) (h8:is<=8) (hf:first<50) (hf1:1<=first) (h:zeJ w TB base n1 own0 ts) (hl:ts.length<8)
 (cw:w.cell? ⟨bw,0,none⟩=some (.int .i64 was)) (ci:w.cell? ⟨bi,0,none⟩=some (.int .i64 is)) (cf:w.cell? ⟨bf,0,none⟩=some (.int .i64 first)):
 Calls Tryz.prog 247 #[zmA TB,.pointer (some ⟨bi,0,none⟩),.pointer (some ⟨bw,0,none⟩),.pointer (some ⟨bf,0,none⟩)] w (zc8 TB base n1 own0 (ts++zbO was is first) w):=by
 have HT:=zH h;have Ha:Hid (∀n:Nat,n<100->Calls Tryz.prog 235 #[.int .i64 n,.pointer (some ⟨TB,0,none⟩)] w (zc8 TB base n1 own0 (ts ++ [some n]) w)):=λn hn=>zvL n TB base n1 own0 ts w hn HT.out hl;clear h;by_cases e1:is=was
 ·have e:ts++zbO was is first=ts:=by simp[zbO,e1]
  rw[e];go_in;go_wp2_with fail;go_end0;exact⟨rfl,HT.out,zd.refl _ _⟩
 ·by_cases e2:is=0
  ·have e:ts++zbO was is first=ts ++ [some (first+9)]:=by unfold zbO;rw[if_neg e1,if_pos e2]
   rw[e];have ec:((first:Int)+9)=((first+9:Nat):Int):=by omega
   have HA:Hid (Calls Tryz.prog 235 #[.int .i64 ((first:Int)+9),.pointer (some ⟨TB,0,none⟩)] w (zc8 TB base n1 own0 (ts ++ [some (first+9)]) w)):=by rw[ec];exact Ha.out (first+9) (by omega)
   clear ec e;go_in;go_wp2_with fail;go_at_call 235;refine HA.out.mono ?_;rintro e w1 ⟨rfl,h1,h2⟩;have H1:Hid (zc8 TB base n1 own0 (ts ++ [some (first+9)]) w (.returned (.tuple #[])) w1):=⟨rfl,h1,h2⟩;clear h1 h2;go_wp2_with fail;go_end0;exact H1.out
  ·have e:ts++zbO was is first=ts ++ [some (first+is.toNat-1)]:=by unfold zbO;rw[if_neg e1,if_neg e2]
   rw[e];have ec:((first:Int)+is-1)=((first+is.toNat-1:Nat):Int):=by omega
   have HA:Hid (Calls Tryz.prog 235 #[.int .i64 ((first:Int)+is-1),.pointer (some ⟨TB,0,none⟩)] w (zc8 TB base n1 own0 (ts ++ [some (first+is.toNat-1)]) w)):=by rw[ec];exact Ha.out (first+is.toNat-1) (by omega)
   clear ec e;go_in;go_wp2_with fail;go_at_call 235;refine HA.out.mono ?_;rintro e w1 ⟨rfl,h1,h2⟩;have H1:Hid (zc8 TB base n1 own0 (ts ++ [some (first+is.toNat-1)]) w (.returned (.tuple #[])) w1):=⟨rfl,h1,h2⟩;clear h1 h2;go_wp2_with fail;go_end0;exact H1.out
structure zaU (w:World) (b:Nat) (was is:Bool) (on off:Int):Prop where
 w0:w.heap[b]?=some (.cells #[.bool was] 4)
 w1:w.heap[b+1]?=some (.cells #[.bool is] 4)
 w2:w.heap[b+2]?=some (.cells #[.int .i64 on] 3)
 w3:w.heap[b+3]?=some (.cells #[.int .i64 off] 3)
abbrev zbx (b:Nat):Value:=.func (.func 246) #[] #[.pointer (some ⟨b+1,0,none⟩),.pointer (some ⟨b,0,none⟩),.pointer (some ⟨b+2,0,none⟩),.pointer (some ⟨b+3,0,none⟩)]
structure zdo (w:World) (b:Nat) (was is:Int) (first:Int):Prop where
 w0:w.heap[b]?=some (.cells #[.int .i64 was] 3)
 w1:w.heap[b+1]?=some (.cells #[.int .i64 is] 3)
 w2:w.heap[b+2]?=some (.cells #[.int .i64 first] 3)
abbrev zfr (b:Nat):Value:=.func (.func 247) #[] #[.pointer (some ⟨b+1,0,none⟩),.pointer (some ⟨b,0,none⟩),.pointer (some ⟨b+2,0,none⟩)]
theorem zN (w:World) (o:Obj) {i:Nat} (h:i<w.heap.size):(w.alloc o).heap[i]?=w.heap[i]?:=Below.heap_alloc w o _ h
theorem ZM (w:World) (o:Obj) {i:Nat} (h:i=w.heap.size):(w.alloc o).heap[i]?=some o:=by rw[h];exact zf w o
theorem zvM (was is:Bool) (on off:Int) (w:World):
 Calls Tryz.prog 233 #[.bool was,.bool is,.int .i64 on,.int .i64 off] w λe w'=>∃b,e=.returned (zbx b)/\zaU w' b was is on off/\w.heap.size=b/\w'.heap.size=b+4/\Below w.heap.size w w':=by
 go_in;go_wp2_with fail;go_ret;refine⟨w.heap.size,rfl,⟨?_,?_,?_,?_⟩,rfl,by simp,((((Below.refl _ _).alloc (Nat.le_refl _) _).alloc (by simp) _).alloc (by simp;omega) _).alloc (by simp;omega) _⟩
 ·rw[zN _ _ (by first|(simp;done)|(simp;omega)),zN _ _ (by first|(simp;done)|(simp;omega)),zN _ _ (by first|(simp;done)|(simp;omega)),ZM _ _ rfl]
 ·rw[zN _ _ (by first|(simp;done)|(simp;omega)),zN _ _ (by first|(simp;done)|(simp;omega)),ZM _ _ (by first|(simp;done)|(simp;omega))]
 ·rw[zN _ _ (by first|(simp;done)|(simp;omega)),ZM _ _ (by first|(simp;done)|(simp;omega))]
 ·rw[ZM _ _ (by first|(simp;done)|(simp;omega))]
theorem zsO (was is:Int) (first:Int) (w:World):
 Calls Tryz.prog 234 #[.int .i64 was,.int .i64 is,.int .i64 first] w λe w'=>∃b,e=.returned (zfr b)/\zdo w' b was is first/\w.heap.size=b/\w'.heap.size=b+3/\Below w.heap.size w w':=by
 go_in;go_wp2_with fail;go_ret;refine⟨w.heap.size,rfl,⟨?_,?_,?_⟩,rfl,by simp,(((Below.refl _ _).alloc (Nat.le_refl _) _).alloc (by first|(simp;done)|(simp;omega)) _).alloc (by first|(simp;done)|(simp;omega)) _⟩
 ·rw[zN _ _ (by first|(simp;done)|(simp;omega)),zN _ _ (by first|(simp;done)|(simp;omega)),ZM _ _ rfl]
 ·rw[zN _ _ (by first|(simp;done)|(simp;omega)),ZM _ _ (by first|(simp;done)|(simp;omega))]
 ·rw[ZM _ _ (by first|(simp;done)|(simp;omega))]
end
end Go.Proofs.YtjlfibhbfdckpaaGreatDoor
