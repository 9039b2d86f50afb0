import Derived.Test.YtjlfibhbfdckpaaGreatDoorW24
namespace Go.Proofs.YtjlfibhbfdckpaaGreatDoor
set_option maxHeartbeats 64000000
set_option maxRecDepth 100000
section
open Wd (wd)
theorem zfp (l:List UInt8):∀ {s:Rs},s.Ok->(zj s l).Ok:=by
 induction l with
 |nil=>intro s h;exact h
 |cons c r ih=>intro s h;exact ih (h.one c)
theorem zuo {s:Rs} (h:s.Fl) {f:Sp} (hin:inG s.W s.H f.lx f.ly=true) {r:Int} (hr:wd r=1\/(wd r=2/\f.lx+1<s.W)):
 ∃q:Sp,q.pen=f.pen/\zba (s.on f) r={s.on q with G:=zR s.W s.H s.G f.lx f.ly r f.pen}:=by
 have ok:=h.ok;obtain⟨a0,a1,b0,b1⟩:=zu.1 hin;have w1:=ok.w1;have hb:∀k,(k=1\/(k=2/\f.lx+1<s.W))->zaa (s.on f) k=s.on ⟨f.lx,f.ly,false,f.pen⟩:=by
  intro k hk;unfold zaa zb8;cases hpd:f.pend with
  |true=>
   have e1:f.lx=0:=by simp[Sp.lx,hpd]
   have e2:f.ly=f.y+1:=by simp[Sp.ly,hpd]
   rw[if_pos (by show(f.pend||_)=true;rw[hpd];rfl)];unfold zt;rw[if_neg (by show¬f.y=s.bot;rw[h.bot];omega)];show ZQ _ (0:Int) (f.y+1)=_;rw[zco (by omega) (by show(0:Int)<s.W;omega) (by omega) (by show f.y+1<(s.H:Int);omega)];rw[e1,e2];rfl
  |false=>
   have e1:f.lx=f.x:=by simp[Sp.lx,hpd]
   have e2:f.ly=f.y:=by simp[Sp.ly,hpd]
   rw[if_neg]
   ·rw[e1,e2,←hpd]
   ·show¬(f.pend||(decide (k=2)&&decide (f.x=(s.W:Int)-1)))=true;rw[hpd];simp;omega
 have hst:∀(k:Int) (G:Nat->Nat->zk),∃q:Sp,q.pen=f.pen/\zcr {s.on ⟨f.lx,f.ly,false,f.pen⟩ with G:=G} k={s.on q with G:=G}:=by
  intro k G;unfold zcr;split
  ·exact⟨⟨(s.W:Int)-1,f.ly,true,f.pen⟩,rfl,rfl⟩
  ·exact⟨⟨f.lx+k,f.ly,false,f.pen⟩,rfl,rfl⟩
 have ew:ze1 (s.on f).W r=wd r:=by
  unfold ze1;rcases hr with e|⟨e,e'⟩
  ·rw[if_neg (by rw[e];omega)]
  ·rw[if_neg (by rintro⟨_,q⟩;have:s.W=1:=q;omega)]
 have er:zeq (s.on f).W r=r:=by
  unfold zeq;rcases hr with e|⟨e,e'⟩
  ·rw[if_neg (by rw[e];omega)]
  ·rw[if_neg (by rintro⟨_,q⟩;have:s.W=1:=q;omega)]
 unfold zba;rw[if_neg (by omega),ew,er,hb _ hr];obtain⟨q,h1,h2⟩:=hst (wd r) (zR s.W s.H s.G f.lx f.ly r f.pen);exact⟨q,h1,h2⟩
structure zjY (s:Rs) (P:Nat->Nat->zk) (G:Nat->Nat->zk) (x y:Nat):Prop where
 it:G x y=P x y
 keep:∀a b,a<s.W->b<s.H->s.G a b=P a b->G a b=P a b
section
variable {s:Rs} {P:Nat->Nat->zk} {x y:Nat}
theorem zsG (h:s.Fl) (hP:Wf s.W s.H P) (hx:x<s.W) (hy:y<s.H) (hb:∀a b,a<s.W->b<s.H->b*s.W+a<y*s.W+x->s.G a b=P a b) (hd:s.G x y≠P x y):(P x y).p≠2:=by
 intro e;obtain⟨h1,h2⟩:=hP.tail x y hx hy e;have h3:=hb (x-1) y (by omega) hy (by omega);have h4:=(h.ok.wf.head (x-1) y (by omega) hy (by rw[h3,h2])).2;rw[h3,h2] at h4;have ex:x-1+1=x:=by omega
 rw[ex] at h4;exact hd (by rw[h4];show(⟨(P x y).r,2,(P x y).n⟩:zk)=P x y;rw[←e])
theorem znw (hP:Wf s.W s.H P) (hx:x<s.W) (hy:y<s.H) (hnt:(P x y).p≠2) {a:Nat} (ha:a+1=x):(P a y).p≠1:=by
 intro e;have:=(hP.head a y (by omega) hy e).2;rw[ha] at this;exact hnt (by rw[this])
theorem zqE (h:s.Fl) (hP:Wf s.W s.H P) (hx:x<s.W) (hy:y<s.H) (hnt:(P x y).p=0) (hw:wd (P x y).r=1):zjY s P (zR s.W s.H s.G x y (P x y).r (P x y).n) x y:=by
 have e:=zdT h.ok.wf hx hy (P x y).r (P x y).n hw;have ec:(⟨(P x y).r,0,(P x y).n⟩:zk)=P x y:=by rw[←hnt]
 refine⟨?_,λa b ha hb hk=>?_⟩
 ·rw[e x y hx hy];unfold wrt;rw[if_pos (zcR.2 ⟨rfl,rfl⟩),ec]
 ·rw[e a b ha hb];unfold wrt;by_cases hp:pt x y a b=true
  ·obtain⟨rfl,rfl⟩:=zcR.1 hp;rw[if_pos hp,ec]
  ·rw[if_neg hp,if_neg]
   ·exact hk
   ·rintro(⟨q1,q2⟩|⟨q1,q2,q3⟩)
    ·obtain⟨e1,rfl⟩:=zcR.1 q2;rw[hk] at q1;exact znw hP hx hy (by rw[hnt];decide) e1 q1
    ·obtain⟨e1,rfl⟩:=zcR.1 q3;rw[hk] at q1;have:=(hP.tail a b ha hb q1).2;rw[e1] at this;rw[this] at hnt;exact absurd (show(1:Int)=0 from hnt) (by decide)
theorem zqF (h:s.Fl) (hP:Wf s.W s.H P) (hx:x<s.W) (hy:y<s.H) (hnt:(P x y).p=1) (hw:wd (P x y).r=2):zjY s P (zR s.W s.H s.G x y (P x y).r (P x y).n) x y:=by
 obtain⟨hx1,ht⟩:=hP.head x y hx hy hnt;have e:=zcS h.ok.wf hx1 hy (P x y).r (P x y).n hw;have ec:(⟨(P x y).r,1,(P x y).n⟩:zk)=P x y:=by rw[←hnt]
 have hpt:∀ {a b:Nat},pt2 x y a b=true↔(a=x\/a=x+1)/\b=y:=by
  intro a b;simp only[pt2,Bool.or_eq_true,zcR];constructor
  ·rintro(⟨a,b⟩|⟨a,b⟩)
   ·exact⟨.inl a,b⟩
   ·exact⟨.inr a,b⟩
  ·rintro⟨a|a,b⟩
   ·exact .inl ⟨a,b⟩
   ·exact .inr ⟨a,b⟩
 have hv:∀a b,(a=x\/a=x+1)/\b=y->wide x (P x y).r (P x y).n a b=P a b:=by
  rintro a b ⟨rfl|rfl,rfl⟩
  ·unfold wide;rw[if_pos rfl,ec]
  ·unfold wide;rw[if_neg (by omega),ht]
 refine⟨?_,λa b ha hb hk=>?_⟩
 ·rw[e x y hx hy];unfold wrt;rw[if_pos (hpt.2 ⟨.inl rfl,rfl⟩),hv x y ⟨.inl rfl,rfl⟩]
 ·rw[e a b ha hb];unfold wrt;by_cases hp:pt2 x y a b=true
  ·rw[if_pos hp,hv a b (hpt.1 hp)]
  ·rw[if_neg hp,if_neg]
   ·exact hk
   ·rintro(⟨q1,q2⟩|⟨q1,q2,q3⟩)
    ·obtain⟨e1,rfl⟩:=hpt.1 q2;rw[hk] at q1;rcases e1 with e1|e1
     ·exact znw hP hx hy (by rw[hnt];decide) e1 q1
     ·exact hp (hpt.2 ⟨.inl (by omega),rfl⟩)
    ·obtain⟨e1,rfl⟩:=hpt.1 q3;rw[hk] at q1;have:=(hP.tail a b ha hb q1).2;rcases e1 with e1|e1
     ·exact hp (hpt.2 ⟨.inr (by omega),rfl⟩)
     ·rw[e1,ht] at this;have:=congrArg zk.p this;exact absurd (show(2:Int)=1 from this) (by decide)
theorem zqG (hP:Wf s.W s.H P) (hx:x<s.W) (hy:y<s.H) {S:Nat->Nat->Bool} {c:zk} (hc:c.p=0) (hS:∀a b,a<s.W->b<s.H->S a b=true->P a b=c) (hi:S x y=true):zjY s P (wrt s.G S (λ_ _=>c)) x y:=by
 refine⟨?_,λa b ha hb hk=>?_⟩
 ·unfold wrt;rw[if_pos hi,hS x y hx hy hi]
 ·unfold wrt;by_cases hp:S a b=true
  ·rw[if_pos hp,hS a b ha hb hp]
  ·rw[if_neg hp,if_neg]
   ·exact hk
   ·rintro(⟨q1,q2⟩|⟨q1,q2,q3⟩)
    ·rw[hk] at q1;obtain⟨e1,e2⟩:=hP.head a b ha hb q1;have:=hS (a+1) b e1 hb q2;rw[e2] at this;rw[←this] at hc;exact absurd (show(2:Int)=0 from hc) (by decide)
    ·rw[hk] at q1;obtain⟨e1,e2⟩:=hP.tail a b ha hb q1;have:=hS (a-1) b (by omega) hb q3;rw[e2] at this;rw[←this] at hc;exact absurd (show(1:Int)=0 from hc) (by decide)
theorem zqH (h:s.Fl) (hx:x<s.W) (hy:y<s.H) {p:Sp} (hpx:p.x=x) (hpy:p.y=y) (hc:blk (zS (s.on p))=P x y):
 ∃S:Nat->Nat->Bool,zj (s.on p) (ze3 P s.W s.H x y).1={s.on p with G:=wrt s.G S (λ_ _=>P x y)}/\(∀a b,a<s.W->b<s.H->S a b=true->P a b=P x y)/\S x y=true/\(ze3 P s.W s.H x y).1.length<=5:=by
 have hB:(s.on p).B=⟨#[]⟩:=h.B;have hle:=zqC (P:=P) s.W x y;have hpos:=zoG (P:=P) (y:=y) hx;have w2:=h.ok.w2;unfold ze3;split
 ·rename_i hl;refine⟨rg x ((x:Int)+zaI P s.W x y) y,?_,?_,?_,?_⟩
  ·obtain⟨l,e,b⟩:=zbg hB 88 (by decide) (by decide) (ZD (n:=(zaI P s.W x y:Int)) (by omega) Z3) (by simp);rw[e];have g0:=zfM b;unfold zJ;simp only[g0];rw[zcn (by omega)];simp only[hc];have e1:(s.on p).x=(x:Int):=hpx;have e2:(s.on p).y.toNat=y:=by show p.y.toNat=y;omega
   rw[e1,e2];rfl
  ·intro a b ha hb hS;obtain⟨rfl,h1,h2⟩:=zjt.1 hS;exact zfQ (W:=s.W) (by omega) (by omega)
  ·exact zjt.2 ⟨rfl,by omega,by omega⟩
  ·have:=zdl 88 _ _ (ZD (n:=(zaI P s.W x y:Int)) (by omega) Z3);simpa using this
 ·rename_i hl;split
  ·rename_i ha;refine⟨zct 0 true x y,?_,?_,?_,by rw[zhO];omega⟩
   ·rw[ziY hB 74 (by decide) (by decide)];unfold zJ;simp[zbS,hc];have e1:(s.on p).x=(x:Int):=hpx;have e2:(s.on p).y=(y:Int):=hpy;rw[e1,e2];rfl
   ·intro a b ha' hb hS;simp[zct] at hS;rcases hS with q|⟨q,q'⟩
    ·exact zqD ha (by omega) hb ha'
    ·obtain rfl:b=y:=by omega
     exact zfQ (W:=s.W) (by omega) (by omega)
   ·simp[zct]
  ·refine⟨zct 0 false x y,?_,?_,?_,by rw[zhO];omega⟩
   ·rw[ziY hB 75 (by decide) (by decide)];unfold zJ;simp[zbS,hc];have e1:(s.on p).x=(x:Int):=hpx;have e2:(s.on p).y=(y:Int):=hpy;rw[e1,e2];rfl
   ·intro a b ha' hb hS;simp[zct] at hS;obtain⟨q,q'⟩:=hS;obtain rfl:b=y:=by omega
    exact zfQ (W:=s.W) (by omega) (by omega)
   ·simp[zct]
theorem zi3 (h:s.Fl) (hP:Wf s.W s.H P) (hN:∀a b,a<s.W->b<s.H->(P a b).n.Ok) (hx:x<s.W) (hy:y<s.H) (hb:∀a b,a<s.W->b<s.H->b*s.W+a<y*s.W+x->s.G a b=P a b) (hd:s.G x y≠P x y):
 (zj s (zbs s P x y)).Fl/\(zj s (zbs s P x y)).W=s.W/\(zj s (zbs s P x y)).H=s.H/\(zj s (zbs s P x y)).odd=s.odd/\zjY s P (zj s (zbs s P x y)).G x y/\(zbs s P x y).length<=33:=by
 have ok:=zfp (zbs s P x y) h.ok;have hn:=hN x y hx hy;have hnt:=zsG h hP hx hy hb hd;unfold zbs at *;by_cases he:zaQ s P x y=[]
 ·rw[if_pos he] at *;obtain⟨p,e1,hp,hat,hl⟩:=zdm (g:=⟨x,y,(P x y).n,true⟩) h ⟨by show(0:Int)<=x;omega,by show(x:Int)<s.W;omega,by show(0:Int)<=y;omega,by show(y:Int)<s.H;omega,hn⟩;have hat':p.lx=x/\p.ly=y/\p.pen=(P x y).n:=by
   simp[Gl.isAt] at hat;exact⟨hat.1.1,hat.1.2,Pn.eqB_iff.1 hat.2⟩
  obtain⟨l1,l2,l3⟩:=hat';have hwd:wd (P x y).r=1/\(P x y).p=0\/wd (P x y).r=2/\(P x y).p=1/\x+1<s.W:=by
   rcases hP.part x y hx hy with⟨a,b⟩|⟨a,b⟩|⟨a,b⟩
   ·exact .inl ⟨b,a⟩
   ·exact .inr ⟨b,a,(hP.head x y hx hy a).1⟩
   ·exact absurd a hnt
  obtain⟨q,q1,q2⟩:=zuo h (f:=p) (zu.2 (by omega)) (r:=(P x y).r) (by
   rcases hwd with⟨a,_⟩|⟨a,_,b⟩
   ·exact .inl a
   ·exact .inr ⟨a,by omega⟩)
  have hf:zj s (zb3 s ⟨x,y,(P x y).n,true⟩++zdd (P x y).r)={s.on q with G:=zR s.W s.H s.G x y (P x y).r (P x y).n}:=by
   rw[ZS,e1,zgI (s:=s.on p) h.B (by rcases hwd with⟨a,_⟩|⟨a,_⟩<;>omega),q2,l1,l2,l3]
  rw[hf] at ok ⊢;refine⟨⟨ok,h.B,h.top,h.bot,by show q.pen.Ok;rw[q1,l3];exact hn⟩,rfl,rfl,rfl,?_,?_⟩
  ·rcases hwd with⟨a,b⟩|⟨a,b,_⟩
   ·exact zqE h hP hx hy b a
   ·exact zqF h hP hx hy b a
  ·have:=znu (P x y).r;rw[List.length_append];omega
 ·rw[if_neg he] at *;have hn2:(zaR s (P x y).n.b).Ok:=⟨h.pen.1,h.pen.2.1,hn.2.2.1,hn.2.2.2⟩;obtain⟨p,e1,hp,hat,hl⟩:=zdm (g:=⟨x,y,zaR s (P x y).n.b,false⟩) h ⟨by show(0:Int)<=x;omega,by show(x:Int)<s.W;omega,by show(0:Int)<=y;omega,by show(y:Int)<s.H;omega,hn2⟩;have hat':p.pend=false/\p.x=x/\p.y=y/\p.pen=zaR s (P x y).n.b:=by
   cases hpd:p.pend with
   |true=>simp[Gl.isAt,hpd] at hat
   |false=>
    simp[Gl.isAt,hpd,Sp.lx,Sp.ly] at hat;exact⟨rfl,hat.1.1,hat.1.2,Pn.eqB_iff.1 hat.2⟩
  obtain⟨l0,l1,l2,l3⟩:=hat';have hbk:(P x y).eqB (zi2 (P x y))=true:=by
   cases hq:(P x y).eqB (zi2 (P x y)) with
   |true=>rfl
   |false=>exact absurd (by unfold zaQ;rw[if_pos hq]) he
  have hbe:=zk.eqB_iff.1 hbk;have her:zaQ s P x y=(ze3 P s.W s.H x y).1:=by
   unfold zaQ at he ⊢;rw[if_neg (by rw[hbk];simp)] at he ⊢;split at he
   ·rename_i q;rw[if_pos q]
   ·exact absurd rfl he
  have hbc:blk (zS (s.on p))=P x y:=by
   rw[hbe];show blk ⟨0,p.pen.b,false,false,false⟩=zi2 (P x y);rw[l3];rfl
  obtain⟨S,f1,f2,f3,f4⟩:=zqH h hx hy l1 l2 hbc;have hf:zj s (zb3 s ⟨x,y,zaR s (P x y).n.b,false⟩++zaQ s P x y)={s.on p with G:=wrt s.G S (λ_ _=>P x y)}:=by
   rw[ZS,e1,her,f1]
  rw[hf] at ok ⊢;refine⟨⟨ok,h.B,h.top,h.bot,by show p.pen.Ok;rw[l3];exact hn2⟩,rfl,rfl,rfl,?_,?_⟩
  ·exact zqG hP hx hy (by rw[hbe];rfl) f2 f3
  ·rw[List.length_append,her];omega
end
structure zeG (W H:Nat) (P:Nat->Nat->zk):Prop where
 wf:Wf W H P
 pen:∀a b,a<W->b<H->(P a b).n.Ok
structure zhb (s:Rs) (P:Nat->Nat->zk) (b0:List UInt8) (i:Nat) (st:Rs × List UInt8):Prop where
 fl:st.1.Fl
 W:st.1.W=s.W
 H:st.1.H=s.H
 odd:st.1.odd=s.odd
 done:∀a b,a<s.W->b<s.H->b*s.W+a<i->st.1.G a b=P a b
 keep:∀a b,a<s.W->b<s.H->s.G a b=P a b->st.1.G a b=P a b
 told:∃m,st.2=b0++m/\zj s m=st.1/\m.length<=33*za0 (λj=>ZL s P (j%s.W) (j/s.W)) i
section
variable {s:Rs} {P:Nat->Nat->zk}
theorem zeH {x y:Nat}:ZL s P x y=true↔s.G x y≠P x y:=by
 unfold ZL;rw[Bool.not_eq_true',zk.eqB_not]
theorem zgj (h:s.Fl) (hP:zeG s.W s.H P) (b0:List UInt8):∀i,i<=s.H*s.W->zhb s P b0 i (zau P s.W (s,b0) i):=by
 have w1:=h.ok.w1;intro i;induction i with
 |zero=>
  intro _;exact⟨h,rfl,rfl,rfl,λa b _ _ q=>absurd q (by omega),λ_ _ _ _ q=>q,[],by simp[zau],rfl,Nat.zero_le _⟩
 |succ i ih=>
  intro hi;have I:=ih (by omega);show zhb s P b0 (i+1) (zgh P (zau P s.W (s,b0) i) (i%s.W) (i/s.W));generalize zau P s.W (s,b0) i=st at I;have hx:i%s.W<s.W:=Nat.mod_lt _ (by omega);have hy:i/s.W<s.H:=Nat.div_lt_of_lt_mul (by rw[Nat.mul_comm];omega);have hxy:i/s.W*s.W+i%s.W=i:=by rw[Nat.mul_comm];exact Nat.div_add_mod i s.W
  have hcn:za0 (λj=>ZL s P (j%s.W) (j/s.W)) (i+1)=za0 (λj=>ZL s P (j%s.W) (j/s.W)) i+(if ZL s P (i%s.W) (i/s.W)=true then 1 else 0):=rfl;generalize i%s.W=x at *;generalize i/s.W=y at *;have hsplit:∀a b,a<s.W->b<s.H->b*s.W+a<i+1->b*s.W+a<i\/(a=x/\b=y):=by
   intro a b ha hb q;by_cases e:b*s.W+a=i
   ·exact .inr (zcb ha hx (by omega))
   ·exact .inl (by omega)
  obtain⟨m,m1,m2,m3⟩:=I.told;unfold zgh;cases hd:ZL st.1 P x y with
  |false=>
   rw[if_neg (by decide)];have he:st.1.G x y=P x y:=by
    have:=hd;unfold ZL at this;exact zk.eqB_iff.1 (by simpa using this)
   refine⟨I.fl,I.W,I.H,I.odd,λa b ha hb q=>?_,I.keep,m,m1,m2,by rw[hcn];split<;>omega⟩;rcases hsplit a b ha hb q with e|⟨rfl,rfl⟩
   ·exact I.done a b ha hb e
   ·exact he
  |true=>
   rw[if_pos rfl];have hd':=zeH.1 hd;have hds:=zeH.2 (λq=>hd' (I.keep x y hx hy q));obtain⟨a1,a2,a3,a4,a5,a6⟩:=zi3 (s:=st.1) (P:=P) (x:=x) (y:=y) I.fl (by rw[I.W,I.H];exact hP.wf) (by rw[I.W,I.H];exact hP.pen) (by rw[I.W];exact hx) (by rw[I.H];exact hy) (by rw[I.W,I.H];intro a b ha hb q;exact I.done a b ha hb (by omega)) hd';have kp:=λa b ha hb q=>a5.keep a b (by rw[I.W];exact ha) (by rw[I.H];exact hb) q;refine⟨a1,a2.trans I.W,a3.trans I.H,a4.trans I.odd,λa b ha hb q=>?_,λa b ha hb q=>kp a b ha hb (I.keep a b ha hb q),m++zbs st.1 P x y,by rw[m1];simp,by rw[ZS,m2],?_⟩
   ·rcases hsplit a b ha hb q with e|⟨rfl,rfl⟩
    ·exact kp a b ha hb (I.done a b ha hb e)
    ·exact a5.it
   ·rw[hcn,if_pos hds,List.length_append];omega
theorem zi4 {p q:Nat->Bool} {n:Nat} (h:∀i,i<n->p i=q i):za0 p n=za0 q n:=by
 induction n with
 |zero=>rfl
 |succ n ih=>
  unfold za0;rw[ih (λi hi=>h i (by omega)),h n (by omega)]
theorem zeI (h:s.Fl) {n:Int} (h0:n≠0) (h1:-100<n) (h2:n<100):zj s (zab s n)={s with pen:=zaR s 0,G:=zo s.top s.bot n Pn.plain s.G}:=by
 unfold zab;have hp:(zaR s 0).Ok:=⟨h.pen.1,h.pen.2.1,Int.le_refl 0,by show(0:Int)<=8;omega⟩;rw[ZS,zfO h.B hp,zkX (s:={s with pen:=zaR s 0}) h.B h0 h1 h2];rfl
theorem zgL (h:s.Fl) {n:Int} (h0:n≠0) (h1:-100<n) (h2:n<100):(zj s (zab s n)).Fl:=by
 have ok:=zfp (zab s n) h.ok;rw[zeI h h0 h1 h2] at ok ⊢;exact⟨ok,h.B,h.top,h.bot,⟨h.pen.1,h.pen.2.1,Int.le_refl 0,by show(0:Int)<=8;omega⟩⟩
theorem zfq (h:s.Fl) {n:Int} (h1:-100<n) (h2:n<100):(zab s n).length<=10:=by
 unfold zab;have a:=zoA s.pen (v:=0) (by omega) (by omega);have b:=zgb h1 h2 83 84;have a':(zcD s.pen (zaR s 0)).length<=5:=a;have:=h.B;rw[List.length_append];omega
theorem zgM (h:s.Fl):ZA s P 0=za0 (λj=>ZL s P (j%s.W) (j/s.W)) (s.H*s.W):=by
 have w1:=h.ok.w1;refine zi4 (λi hi=>?_);have hx:i%s.W<s.W:=Nat.mod_lt _ (by omega);have hy:=Nat.div_lt_of_lt_mul (by rw[Nat.mul_comm];omega);show(!(zcz s (i%s.W) ((i/s.W:Nat)+0)).eqB _)=_;generalize i/s.W=y at *;generalize i%s.W=x at *;unfold zcz;rw[if_pos (zu.2 (by omega))];unfold ZL;have:((y:Int)+0).toNat=y:=by omega
 rw[this]
theorem ziy (h:s.Fl) {n:Int} (h0:n≠0) (h1:-100<n) (h2:n<100):ZA s P n=za0 (λj=>ZL (zj s (zab s n)) P (j%s.W) (j/s.W)) (s.H*s.W):=by
 have w1:=h.ok.w1;rw[zeI h h0 h1 h2];refine zi4 (λi hi=>?_);have hx:i%s.W<s.W:=Nat.mod_lt _ (by omega);have hy:=Nat.div_lt_of_lt_mul (by rw[Nat.mul_comm];omega);show(!(zcz s (i%s.W) ((i/s.W:Nat)+n)).eqB _)=(!(zo s.top s.bot n Pn.plain s.G (i%s.W) (i/s.W)).eqB _);generalize i/s.W=y at *;generalize i%s.W=x at *;congr 2;unfold zcz zo;rw[h.top,h.bot,if_pos (show(0:Int)<=(y:Int)/\(y:Int)<=(s.H:Int)-1 by omega)];by_cases hc:(0:Int)<=(y:Int)+n/\(y:Int)+n<=(s.H:Int)-1
 ·rw[if_pos hc,if_pos (zu.2 (by omega))]
 ·rw[if_neg hc,if_neg (λq=>hc (by have:=zu.1 q;omega))]
structure zi5 (s:Rs) (P:Nat->Nat->zk) (b:List UInt8):Prop where
 fl:(zj s b).Fl
 W:(zj s b).W=s.W
 H:(zj s b).H=s.H
 odd:(zj s b).odd=s.odd
 eq:ZX s.W s.H (zj s b).G P
theorem zhU (h:s.Fl) (hP:zeG s.W s.H P) {n:Int} (h1:-20<=n) (h2:n<=20):zi5 s P (ZT s P n)/\(ZT s P n).length<=(if n=0 then 0 else 10)+33*ZA s P n:=by
 unfold ZT zgi;by_cases h0:n=0
 ·subst h0;rw[if_pos rfl,if_pos rfl,zgM h];have I:=zgj h hP [] (s.H*s.W) (Nat.le_refl _);generalize zau P s.W (s,[]) (s.H*s.W)=st at I;obtain⟨m,m1,m2,m3⟩:=I.told;rw[List.nil_append] at m1;rw[m1];refine⟨⟨by rw[m2];exact I.fl,by rw[m2];exact I.W,by rw[m2];exact I.H,by rw[m2];exact I.odd,λa b ha hb=>?_⟩,by omega⟩;rw[m2];exact I.done a b ha hb (zas ha hb)
 ·rw[if_neg h0,if_neg h0,ziy h h0 (by omega) (by omega)];have hs:=zeI h h0 (n:=n) (by omega) (by omega);have hfl:=zgL h h0 (n:=n) (by omega) (by omega);have hl:=zfq h (n:=n) (by omega) (by omega);have eW:(zj s (zab s n)).W=s.W:=by rw[hs]
  have eH:(zj s (zab s n)).H=s.H:=by rw[hs]
  have eo:(zj s (zab s n)).odd=s.odd:=by rw[hs]
  have I:=zgj hfl (P:=P) (by rw[eW,eH];exact hP) (zab s n) (s.H*s.W) (by rw[eW,eH];exact Nat.le_refl _);rw[eW] at I;generalize zau P s.W (zj s (zab s n),zab s n) (s.H*s.W)=st at I;obtain⟨m,m1,m2,m3⟩:=I.told;rw[eW] at m3;have mf:zj s st.2=st.1:=by rw[m1,ZS,m2]
  refine⟨⟨by rw[mf];exact I.fl,by rw[mf];exact I.W.trans eW,by rw[mf];exact I.H.trans eH,by rw[mf];exact I.odd.trans eo,λa b ha hb=>?_⟩,?_⟩
  ·rw[mf];exact I.done a b (by rw[eW];exact ha) (by rw[eH];exact hb) (by rw[eW];exact zas ha hb)
  ·rw[m1,List.length_append];omega
structure zwK (s:Rs) (P:Nat->Nat->zk) (b:List UInt8):Prop where
 re:zi5 s P b
 few:b.length<=64*ZA s P 0+16
 none:ZA s P 0=0->b=[]
 moved:∀n:Int,-(s.H:Int)<=n->n<=s.H->b.length<=64*ZA s P n+24
theorem zk6 (h:s.Fl) (hP:zeG s.W s.H P):zwK s P (zdu s P):=by
 have h2:=h.ok.h2;obtain⟨n1,⟨n2,n3⟩,n4⟩:=znv (s:=s) (P:=P) s.H;obtain⟨r1,r2⟩:=zhU h hP (n:=0) (by omega) (by omega);rw[if_pos rfl] at r2;obtain⟨q1,q2⟩:=zhU h hP (n:=(zaw s P s.H).1) (by omega) (by omega);rw[←n1] at q2;unfold zdu;by_cases hc:(zaw s P s.H).1≠0/\(ZT s P (zaw s P s.H).1).length<(ZT s P 0).length
 ·rw[if_pos hc];rw[if_neg hc.1] at q2;refine⟨q1,by omega,λe=>?_,λn a b=>?_⟩
  ·exact absurd (by rw[zoH e]) hc.1
  ·have:=n4 n a b;omega
 ·rw[if_neg hc];refine⟨r1,by omega,λe=>?_,λn a b=>?_⟩
  ·exact List.eq_nil_of_length_eq_zero (by omega)
  ·have:=n4 n a b;by_cases e0:(zaw s P s.H).1=0
   ·rw[e0] at n1;omega
   ·rw[if_neg e0] at q2;have:¬(ZT s P (zaw s P s.H).1).length<(ZT s P 0).length:=λq=>hc ⟨e0,q⟩;omega
end
section
variable {L:List Wn} {rk:Int->Nat} {K:Nat}
theorem zfR (T:ZR L rk K):∀(f:Nat) (v:Wn) (x y:Int),v∈L->K<=rk v.n+f->Sub L v.n (zaf L f v x y).1.n:=by
 intro f;induction f with
 |zero=>intro v x y _ _;exact .refl
 |succ f ih=>
  intro v x y hv hk;rw[T.ownSucc hv hk];cases hn:zcw L v.n x y with
  |none=>exact .refl
  |some u=>
   obtain⟨hu,hp,_,_⟩:=zcX hn;have:=(T.up u hu (by have:=T.pos hv;omega)).2;rw[hp] at this;have h1:=ih u (x-u.x) (y-u.y) hu (by omega);have h2:Sub L v.n u.n:=.step hu (by rw[hp];exact .refl);exact h2.trans h1
theorem zsH (T:ZR L rk K):∀(f:Nat) (v:Wn) (x y x' y':Int),v∈L->K<=rk v.n+f->(zaf L f v x y).1.n=(zaf L f v x' y').1.n →
 (zaf L f v x y).2.1-x=(zaf L f v x' y').2.1-x'/\(zaf L f v x y).2.2-y=(zaf L f v x' y').2.2-y':=by
 intro f;induction f with
 |zero=>intro v x y x' y' _ _ _;exact⟨by show x-x=x'-x';omega,by show y-y=y'-y';omega⟩
 |succ f ih=>
  intro v x y x' y' hv hk he;have hv0:=T.pos hv;have hup:∀ {a b:Int} {u:Wn},zcw L v.n a b=some u->u∈L/\u.par=v.n/\rk v.n<rk u.n:=fun {a b u} q=>by
   obtain⟨hu,hp,_,_⟩:=zcX q;have:=(T.up u hu (by omega)).2;rw[hp] at this;exact⟨hu,hp,this⟩
  rw[T.ownSucc hv hk] at he ⊢;rw[T.ownSucc hv hk] at he ⊢;cases hn:zcw L v.n x y with
  |none=>
   rw[hn] at he;cases hn':zcw L v.n x' y' with
   |none=>exact⟨by show x-x=x'-x';omega,by show y-y=y'-y';omega⟩
   |some u'=>
    rw[hn'] at he;obtain⟨hu,hp,hr⟩:=hup hn';have hs:=(zfR T f u' (x'-u'.x) (y'-u'.y) hu (by omega)).rank T (T.pos hu);have he':v.n=(zaf L f u' (x'-u'.x) (y'-u'.y)).1.n:=he;rw[←he'] at hs;omega
  |some u=>
   rw[hn] at he;obtain⟨hu,hp,hr⟩:=hup hn;cases hn':zcw L v.n x' y' with
   |none=>
    rw[hn'] at he;have hs:=(zfR T f u (x-u.x) (y-u.y) hu (by omega)).rank T (T.pos hu);have he':(zaf L f u (x-u.x) (y-u.y)).1.n=v.n:=he;rw[he'] at hs;omega
   |some u'=>
    rw[hn'] at he;obtain⟨hu',hp',hr'⟩:=hup hn';have he':(zaf L f u (x-u.x) (y-u.y)).1.n=(zaf L f u' (x'-u'.x) (y'-u'.y)).1.n:=he;have hs:=zfR T f u (x-u.x) (y-u.y) hu (by omega);have hs':=zfR T f u' (x'-u'.x) (y'-u'.y) hu' (by omega);rw[←he'] at hs';have hne:∀ {a b:Wn},a∈L->b∈L->a.par=v.n->b.par=v.n->rk v.n<rk a.n->Sub L a.n b.n->a=b:=by
     intro a b ha hb hap hbp har hab;rcases hab.last with e|⟨c,hc,e,hac⟩
     ·exact(zak T.nd hb ha e).symm
     ·have:c=b:=zak T.nd hc hb e;rw[this,hbp] at hac;have:=(hac.rank T (T.pos ha)).1;omega
    have huu:u=u':=by
     rcases Sub.chain T hs hs' with q|q
     ·exact hne hu hu' hp hp' hr q
     ·exact(hne hu' hu hp' hp hr' q).symm
    subst huu;have:=ih u (x-u.x) (y-u.y) (x'-u.x) (y'-u.y) hu (by omega) he';show(zaf L f u (x-u.x) (y-u.y)).2.1-x=(zaf L f u (x'-u.x) (y'-u.y)).2.1-x'/\(zaf L f u (x-u.x) (y-u.y)).2.2-y=(zaf L f u (x'-u.x) (y'-u.y)).2.2-y';omega
def zqI (L:List Wn):Prop:=∀v∈L,zeG v.W v.H v.G
theorem zup (T:ZR L rk K) (hw:zqI L) {r:Wn} (hr:r∈L):zeG r.W r.H (λx y=>zcx L K r x y):=by
 have hK:K<=rk r.n+K:=by omega
 have fact:∀x y:Nat,x<r.W->y<r.H->∃o:Wn,∃a b:Nat,o∈L/\a<o.W/\b<o.H/\zaf L K r x y=(o,(a:Int),(b:Int)):=by
  intro x y hx hy;obtain⟨h1,h2⟩:=T.ownIn K r x y hr hK (zu.2 (by omega));obtain⟨a0,a1,b0,b1⟩:=zu.1 h2;refine⟨_,(zaf L K r x y).2.1.toNat,(zaf L K r x y).2.2.toNat,h1,by omega,by omega,?_⟩;have e1:((zaf L K r x y).2.1.toNat:Int)=(zaf L K r x y).2.1:=by omega
  have e2:((zaf L K r x y).2.2.toNat:Int)=(zaf L K r x y).2.2:=by omega
  rw[e1,e2]
 have val:∀x y:Nat,∀ {o:Wn} {a b:Nat},zaf L K r x y=(o,(a:Int),(b:Int))->zcx L K r x y=if (o.G a b).p=1 then za6 L K r o (o.G a b) ((x:Int)+1) y else if (o.G a b).p=2 then za6 L K r o (o.G a b) ((x:Int)-1) y else o.G a b:=by
  intro x y o a b e;unfold zcx;rw[e];simp only[Int.toNat_natCast]
 have half:∀(x y x':Nat) {o:Wn} {a b:Nat},x<r.W->y<r.H->zaf L K r x y=(o,(a:Int),(b:Int))->o∈L->inG r.W r.H x' y=true->(zaf L K r x' y).1.n=o.n->zaf L K r x' y=(o,(a:Int)+(x'-x),(b:Int)):=by
  intro x y x' o a b hx hy e ho hin hn;have hx':x'<r.W:=by have:=zu.1 hin;omega
  obtain⟨o',a',b',ho',_,_,e'⟩:=fact x' y hx' hy;rw[e'] at hn;have heq:=zak T.nd ho' ho hn;subst heq;have:=zsH T K r x y x' y hr hK (by rw[e,e']);rw[e,e'] at this;rw[e'];have h1:(a':Int)=(a:Int)+(x'-x):=by have:=this.1;simp only at this;omega
  have h2:(b':Int)=(b:Int):=by have:=this.2;simp only at this;omega
  rw[h1,h2]
 have blanks:∀(c:zk),(blk c.n).p=0/\wd (blk c.n).r=1:=λc=>⟨rfl,ze6⟩;refine⟨⟨λx y hx hy=>?_,λx y hx hy hp=>?_,λx y hx hy hp=>?_⟩,λx y hx hy=>?_⟩
 ·obtain⟨o,a,b,ho,ha,hb,e⟩:=fact x y hx hy;have W:=(hw o ho).wf;rw[val x y e];rcases W.part a b ha hb with⟨p,q⟩|⟨p,q⟩|⟨p,q⟩
  ·rw[if_neg (by rw[p];decide),if_neg (by rw[p];decide)];exact .inl ⟨p,q⟩
  ·rw[if_pos p];unfold za6;split
   ·exact .inr (.inl ⟨p,q⟩)
   ·exact .inl (blanks _)
  ·rw[if_neg (by rw[p];decide),if_pos p];unfold za6;split
   ·exact .inr (.inr ⟨p,q⟩)
   ·exact .inl (blanks _)
 ·obtain⟨o,a,b,ho,ha,hb,e⟩:=fact x y hx hy;have W:=(hw o ho).wf;rw[val x y e] at hp ⊢;rcases W.part a b ha hb with⟨p,q⟩|⟨p,q⟩|⟨p,q⟩
  ·rw[if_neg (by rw[p];decide),if_neg (by rw[p];decide),p] at hp;exact absurd hp (by decide)
  ·rw[if_pos p] at hp ⊢;unfold za6 at hp ⊢;split at hp
   ·rename_i hc;rw[if_pos hc];obtain⟨ht1,ht2⟩:=W.head a b ha hb p;have hin:=hc.1;have hx1:x+1<r.W:=by have:=zu.1 hin;omega
    have e2:=half x y (x+1) hx hy e ho (zu.2 (by omega)) hc.2;have e3:zaf L K r ((x+1:Nat):Int) y=(o,((a+1:Nat):Int),(b:Int)):=by
     rw[e2];congr 1;congr 1;omega
    refine⟨hx1,?_⟩;rw[val (x+1) y e3,ht2];rw[if_neg (by simp),if_pos rfl];unfold za6;have hb':((x+1:Nat):Int)-1=(x:Int):=by omega
    rw[hb',if_pos ⟨zu.2 (by omega),by rw[e]⟩]
   ·exact absurd (show(0:Int)=1 from hp) (by decide)
  ·rw[if_neg (by rw[p];decide),if_pos p] at hp;unfold za6 at hp;split at hp
   ·rw[p] at hp;exact absurd hp (by decide)
   ·exact absurd (show(0:Int)=1 from hp) (by decide)
 ·obtain⟨o,a,b,ho,ha,hb,e⟩:=fact x y hx hy;have W:=(hw o ho).wf;rw[val x y e] at hp ⊢;rcases W.part a b ha hb with⟨p,q⟩|⟨p,q⟩|⟨p,q⟩
  ·rw[if_neg (by rw[p];decide),if_neg (by rw[p];decide),p] at hp;exact absurd hp (by decide)
  ·rw[if_pos p] at hp;unfold za6 at hp;split at hp
   ·rw[p] at hp;exact absurd hp (by decide)
   ·exact absurd (show(0:Int)=2 from hp) (by decide)
  ·rw[if_neg (by rw[p];decide),if_pos p] at hp ⊢;unfold za6 at hp ⊢;split at hp
   ·rename_i hc;rw[if_pos hc];obtain⟨ht1,ht2⟩:=W.tail a b ha hb p;have hin:=hc.1;have hx1:1<=x:=by have:=zu.1 hin;omega
    have ex:((x-1:Nat):Int)=(x:Int)-1:=by omega
    have e2:=half x y (x-1) hx hy e ho (zu.2 (by omega)) (by rw[ex];exact hc.2);have e3:zaf L K r ((x-1:Nat):Int) y=(o,((a-1:Nat):Int),(b:Int)):=by
     rw[e2];congr 1;congr 1;omega
    refine⟨hx1,?_⟩;rw[val (x-1) y e3,ht2];rw[if_pos rfl];unfold za6;have hb':((x-1:Nat):Int)+1=(x:Int):=by omega
    rw[hb',if_pos ⟨zu.2 (by omega),by rw[e]⟩]
   ·exact absurd (show(0:Int)=2 from hp) (by decide)
 ·obtain⟨o,a,b,ho,ha,hb,e⟩:=fact x y hx hy;have hn:=(hw o ho).pen a b ha hb;rw[val x y e];split
  ·unfold za6;split
   ·exact hn
   ·exact hn
  ·split
   ·unfold za6;split
    ·exact hn
    ·exact hn
   ·exact hn
end
def zbP (W H:Nat) (G:Nat->Nat->zk):Prop:=∀a b,a<W->b<H->(G a b).n.Ok
def zah (L:List Wn):Prop:=∀v∈L,zbP v.W v.H v.G
theorem zfS:Pn.plain.Ok:=by unfold Pn.Ok Pn.plain;decide
theorem znx {p:Pn} (h:zdA p=true):p.Ok:=zpK.1 h
theorem zhV (W H:Nat):zbP W H (λ_ _=>blk Pn.plain):=λ_ _ _ _=>zfS
section
variable {W H:Nat} {G:Nat->Nat->zk}
theorem zbP.upd (h:zbP W H G) (x y:Nat) {c:zk} (hc:c.n.Ok):zbP W H (upd G x y c):=λa b ha hb=>by
 unfold Go.Proofs.YtjlfibhbfdckpaaGreatDoor.upd;split
 ·exact hc
 ·exact h a b ha hb
theorem zbP.set (h:zbP W H G) (x y:Int) {c:zk} (hc:c.n.Ok):zbP W H (setG W H G x y c):=by
 unfold setG;split
 ·rename_i hin;have hin:=zu.1 hin;have h1:(G x.toNat y.toNat).n.Ok:=h _ _ (by omega) (by omega);split
  ·exact(h.upd _ _ (by rw[zgv];exact h1)).upd _ _ hc
  ·split
   ·exact(h.upd _ _ (by rw[zgv];exact h1)).upd _ _ hc
   ·exact h.upd _ _ hc
 ·exact h
theorem zbP.write (h:zbP W H G) (x y r:Int) {p:Pn} (hp:p.Ok):zbP W H (zR W H G x y r p):=by
 unfold zR;split
 ·exact h.set x y hp
 ·have h2:=(h.set x y (c:=blk p) (by rw[zgv];exact hp)).set (x+1) y (c:=blk p) (by rw[zgv];exact hp);split
  ·exact(h2.upd _ _ hp).upd _ _ hp
  ·exact h2
theorem zbP.writeAll {y:Int} {p:Pn} (hp:p.Ok):∀(l:List Int) (x:Int) {G:Nat->Nat->zk},zbP W H G->zbP W H (Go.Proofs.YtjlfibhbfdckpaaGreatDoor.writeAll W H y p x l G)
 |[],_,_,h=>h
 |r::l,x,_,h=>zbP.writeAll hp l (x+wd r) (h.write x y r hp)
theorem zbP.wrt (h:zbP W H G) (P:Nat->Nat->Bool) {v:Nat->Nat->zk} (hv:∀a b,a<W->b<H->P a b=true->(v a b).n.Ok):zbP W H (wrt G P v):=λa b ha hb=>by
 unfold Go.Proofs.YtjlfibhbfdckpaaGreatDoor.wrt;split
 ·rename_i hP;exact hv a b ha hb hP
 ·split
  ·rw[zgv];exact h a b ha hb
  ·exact h a b ha hb
theorem zbP.fill (h:zbP W H G) (x y ww hh:Int) {p:Pn} (hp:p.Ok):∀j,zbP W H (zaY W x y ww hh p G j):=by
 intro j;induction j with
 |zero=>exact h
 |succ j ih=>
  unfold zaY;split
  ·exact ih.wrt _ (λa b _ _ _=>by rw[zgv];exact hp)
  ·exact ih
theorem zbP.scroll (h:zbP W H G) (top bot n:Int) (ht:0<=top) (hb:bot<H) {p:Pn} (hp:p.Ok):zbP W H (zo top bot n p G):=λa b ha hb'=>by
 unfold zo;split
 ·split
  ·exact h _ _ ha (by omega)
  ·rw[zgv];exact hp
 ·exact h _ _ ha hb'
theorem zbP.sized (h:zbP W H G) (W' H':Nat):zbP W' H' (ZJ W H W' G):=λa b _ _=>by
 have h1:((if a<W/\b<H then G a b else blk Pn.plain):zk).n.Ok:=by
  split
  ·rename_i hc;exact h a b hc.1 hc.2
  ·exact zfS
 unfold ZJ zfA;simp only[];generalize (if a<W/\b<H then G a b else blk Pn.plain)=c at h1 ⊢;split
 ·rw[zgv];exact h1
 ·exact h1
end
section
variable {L:List Wn}
theorem zah.upd (h:zah L) (n:Int) {f:Wn->Wn} (hf:∀u∈L,u.n=n->zbP (f u).W (f u).H (f u).G):zah (zY L n f):=by
 intro v hv;unfold zY at hv;obtain⟨u,hu,rfl⟩:=List.mem_map.1 hv;split
 ·rename_i e;exact hf u hu e
 ·exact h u hu
theorem zah.filt (h:zah L) (p:Wn->Bool):zah (L.filter p):=λv hv=>h v (List.mem_filter.1 hv).1
theorem zah.del (h:zah L) (n:Int):zah (delL L n):=h.filt _
theorem zah.app (h:zah L) {v:Wn} (hv:zbP v.W v.H v.G):zah (L ++ [v]):=λu hu=>by
 rcases List.mem_append.1 hu with hu|hu
 ·exact h u hu
 ·obtain rfl:u=v:=by simpa using hu
  exact hv
theorem zah.top (h:zah L) {v:Wn} (hv:v∈L) (p:Int):zah (zcy L v p):=zah.app (h.filt _) (h v hv)
theorem zah.bot (h:zah L) {v:Wn} (hv:v∈L):zah (zcK L v):=by
 have h1:zah (zG L v.n):=h.filt _;unfold zcK;split
 ·intro u hu;obtain rfl:u=v:=by simpa using hu
  exact h _ hv
 ·rename_i r t e;rw[e] at h1;intro u hu;rcases List.mem_cons.1 hu with rfl|hu
  ·exact h1 _ List.mem_cons_self
  ·rcases List.mem_cons.1 hu with rfl|hu
   ·exact h _ hv
   ·exact h1 u (List.mem_cons_of_mem _ hu)
theorem zk7 (W H:Nat):zah [Zd W H]:=λv hv=>by
 obtain rfl:v=Zd W H:=by simpa using hv
 exact zhV W H
end
def Fits (L:List Wn) (W H:Nat):Prop:=∀r∈L,r.n=0->r.W=W/\r.H=H
section
variable {L:List Wn} {W H:Nat}
theorem Fits.upd (h:Fits L W H) (n:Int) {f:Wn->Wn} (hf:∀u∈L,u.n=n->(f u).n=0->u.n=0/\(f u).W=u.W/\(f u).H=u.H):Fits (zY L n f) W H:=by
 intro v hv;unfold zY at hv;obtain⟨u,hu,rfl⟩:=List.mem_map.1 hv;split
 ·rename_i e;intro h0;obtain⟨a,b,c⟩:=hf u hu e h0;rw[b,c];exact h u hu a
 ·exact h u hu
theorem Fits.filt (h:Fits L W H) (p:Wn->Bool):Fits (L.filter p) W H:=λv hv=>h v (List.mem_filter.1 hv).1
theorem Fits.del (h:Fits L W H) (n:Int):Fits (delL L n) W H:=h.filt _
theorem Fits.app (h:Fits L W H) {v:Wn} (hv:v.n=0->v.W=W/\v.H=H):Fits (L ++ [v]) W H:=λu hu=>by
 rcases List.mem_append.1 hu with hu|hu
 ·exact h u hu
 ·obtain rfl:u=v:=by simpa using hu
  exact hv
theorem Fits.top (h:Fits L W H) {v:Wn} (hv:v∈L) (p:Int):Fits (zcy L v p) W H:=Fits.app (h.filt _) (h v hv)
theorem Fits.bot (h:Fits L W H) {v:Wn} (hv:v∈L):Fits (zcK L v) W H:=by
 have h1:Fits (zG L v.n) W H:=h.filt _;unfold zcK;split
 ·intro u hu;obtain rfl:u=v:=by simpa using hu
  exact h _ hv
 ·rename_i r t e;rw[e] at h1;intro u hu;rcases List.mem_cons.1 hu with rfl|hu
  ·exact h1 _ List.mem_cons_self
  ·rcases List.mem_cons.1 hu with rfl|hu
   ·exact h _ hv
   ·exact h1 u (List.mem_cons_of_mem _ hu)
end
theorem zmw {s:Rs} (h:s.Fl) {W H:Nat} (w1:1<=W) (w2:W<=40) (h1:1<=H) (h2:H<=20):(zaB s W H).Fl:=
 ⟨zcT h.ok w1 w2 h1 h2,h.B,rfl,rfl,h.pen⟩
theorem zsI {W H:Nat} (w1:1<=W) (w2:W<=40) (h1:1<=H) (h2:H<=20):(zfh W H).Fl:=
 ⟨zg4 w1 w2 h1 h2,rfl,rfl,rfl,zfS⟩
def zgZ (x y:Int) (s:Rs):Rs:=if ZC x y=true then zaB s x.toNat y.toNat else s
theorem zI.winsOk {w:World} {M:Mm} {L:List Wn} {last:Int} {N:Nat} {s:Rs} {t:Pt} (h:zI w M L last N s t) (p:zah L):zqI L:=λv hv=>⟨(h.win v hv).wf,p v hv⟩
end
end Go.Proofs.YtjlfibhbfdckpaaGreatDoor
