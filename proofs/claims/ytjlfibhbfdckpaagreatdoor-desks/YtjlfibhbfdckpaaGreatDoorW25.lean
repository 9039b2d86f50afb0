import Derived.Test.YtjlfibhbfdckpaaGreatDoorW24
namespace Go.Proofs.YtjlfibhbfdckpaaGreatDoor
set_option maxHeartbeats 64000000
set_option maxRecDepth 100000
section
open Wd (wd)
theorem zfr (l:List UInt8):∀ {s:Rs},s.Ok->(zm s l).Ok:=by
 induction l with
 |nil=>intro s h;exact h
 |cons c r ih=>intro s h;exact ih (h.one c)
theorem zuq {s:Rs} (h:s.Fl) {f:Sp} (hin:inG s.W s.H f.lx f.ly=true) {r:Int} (hr:wd r=1\/(wd r=2/\f.lx+1<s.W)):
 ∃q:Sp,q.pen=f.pen/\zbc (s.on f) r={s.on q with G:=zU s.W s.H s.G f.lx f.ly r f.pen}:=by
 have ok:=h.ok;obtain⟨a0,a1,b0,b1⟩:=zw.1 hin;have w1:=ok.w1;have hb:∀k,(k=1\/(k=2/\f.lx+1<s.W))->zac (s.on f) k=s.on ⟨f.lx,f.ly,false,f.pen⟩:=by
  intro k hk;unfold zac zca;cases hpd:f.pend with
  |true=>
   have e1:f.lx=0:=by simp[Sp.lx,hpd]
   have e2:f.ly=f.y+1:=by simp[Sp.ly,hpd]
   rw[if_pos (by show(f.pend||_)=true;rw[hpd];rfl)];unfold zv;rw[if_neg (by show¬f.y=s.bot;rw[h.bot];omega)];show ZS _ (0:Int) (f.y+1)=_;rw[zcq (by omega) (by show(0:Int)<s.W;omega) (by omega) (by show f.y+1<(s.H:Int);omega)];rw[e1,e2];rfl
  |false=>
   have e1:f.lx=f.x:=by simp[Sp.lx,hpd]
   have e2:f.ly=f.y:=by simp[Sp.ly,hpd]
   rw[if_neg]
   ·rw[e1,e2,←hpd]
   ·show¬(f.pend||(decide (k=2)&&decide (f.x=(s.W:Int)-1)))=true;rw[hpd];simp;omega
 have hst:∀(k:Int) (G:Nat->Nat->zn),∃q:Sp,q.pen=f.pen/\zct {s.on ⟨f.lx,f.ly,false,f.pen⟩ with G:=G} k={s.on q with G:=G}:=by
  intro k G;unfold zct;split
  ·exact⟨⟨(s.W:Int)-1,f.ly,true,f.pen⟩,rfl,rfl⟩
  ·exact⟨⟨f.lx+k,f.ly,false,f.pen⟩,rfl,rfl⟩
 have ew:ze3 (s.on f).W r=wd r:=by
  unfold ze3;rcases hr with e|⟨e,e'⟩
  ·rw[if_neg (by rw[e];omega)]
  ·rw[if_neg (by rintro⟨_,q⟩;have:s.W=1:=q;omega)]
 have er:zes (s.on f).W r=r:=by
  unfold zes;rcases hr with e|⟨e,e'⟩
  ·rw[if_neg (by rw[e];omega)]
  ·rw[if_neg (by rintro⟨_,q⟩;have:s.W=1:=q;omega)]
 unfold zbc;rw[if_neg (by omega),ew,er,hb _ hr];obtain⟨q,h1,h2⟩:=hst (wd r) (zU s.W s.H s.G f.lx f.ly r f.pen);exact⟨q,h1,h2⟩
structure zj0 (s:Rs) (P:Nat->Nat->zn) (G:Nat->Nat->zn) (x y:Nat):Prop where
 it:G x y=P x y
 keep:∀a b,a<s.W->b<s.H->s.G a b=P a b->G a b=P a b
section
variable {s:Rs} {P:Nat->Nat->zn} {x y:Nat}
theorem zsI (h:s.Fl) (hP:Wf s.W s.H P) (hx:x<s.W) (hy:y<s.H) (hb:∀a b,a<s.W->b<s.H->b*s.W+a<y*s.W+x->s.G a b=P a b) (hd:s.G x y≠P x y):(P x y).p≠2:=by
 intro e;obtain⟨h1,h2⟩:=hP.tail x y hx hy e;have h3:=hb (x-1) y (by omega) hy (by omega);have h4:=(h.ok.wf.head (x-1) y (by omega) hy (by rw[h3,h2])).2;rw[h3,h2] at h4;have ex:x-1+1=x:=by omega
 rw[ex] at h4;exact hd (by rw[h4];show(⟨(P x y).r,2,(P x y).n⟩:zn)=P x y;rw[←e])
theorem zny (hP:Wf s.W s.H P) (hx:x<s.W) (hy:y<s.H) (hnt:(P x y).p≠2) {a:Nat} (ha:a+1=x):(P a y).p≠1:=by
 intro e;have:=(hP.head a y (by omega) hy e).2;rw[ha] at this;exact hnt (by rw[this])
theorem zqG (h:s.Fl) (hP:Wf s.W s.H P) (hx:x<s.W) (hy:y<s.H) (hnt:(P x y).p=0) (hw:wd (P x y).r=1):zj0 s P (zU s.W s.H s.G x y (P x y).r (P x y).n) x y:=by
 have e:=zdV h.ok.wf hx hy (P x y).r (P x y).n hw;have ec:(⟨(P x y).r,0,(P x y).n⟩:zn)=P x y:=by rw[←hnt]
 refine⟨?_,λa b ha hb hk=>?_⟩
 ·rw[e x y hx hy];unfold wrt;rw[if_pos (zcT.2 ⟨rfl,rfl⟩),ec]
 ·rw[e a b ha hb];unfold wrt;by_cases hp:pt x y a b=true
  ·obtain⟨rfl,rfl⟩:=zcT.1 hp;rw[if_pos hp,ec]
  ·rw[if_neg hp,if_neg]
   ·exact hk
   ·rintro(⟨q1,q2⟩|⟨q1,q2,q3⟩)
    ·obtain⟨e1,rfl⟩:=zcT.1 q2;rw[hk] at q1;exact zny hP hx hy (by rw[hnt];decide) e1 q1
    ·obtain⟨e1,rfl⟩:=zcT.1 q3;rw[hk] at q1;have:=(hP.tail a b ha hb q1).2;rw[e1] at this;rw[this] at hnt;exact absurd (show(1:Int)=0 from hnt) (by decide)
theorem zqH (h:s.Fl) (hP:Wf s.W s.H P) (hx:x<s.W) (hy:y<s.H) (hnt:(P x y).p=1) (hw:wd (P x y).r=2):zj0 s P (zU s.W s.H s.G x y (P x y).r (P x y).n) x y:=by
 obtain⟨hx1,ht⟩:=hP.head x y hx hy hnt;have e:=zcU h.ok.wf hx1 hy (P x y).r (P x y).n hw;have ec:(⟨(P x y).r,1,(P x y).n⟩:zn)=P x y:=by rw[←hnt]
 have hpt:∀ {a b:Nat},pt2 x y a b=true↔(a=x\/a=x+1)/\b=y:=by
  intro a b;simp only[pt2,Bool.or_eq_true,zcT];constructor
  ·rintro(⟨a,b⟩|⟨a,b⟩)
   ·exact⟨.inl a,b⟩
   ·exact⟨.inr a,b⟩
  ·rintro⟨a|a,b⟩
   ·exact .inl ⟨a,b⟩
   ·exact .inr ⟨a,b⟩
 have hv:∀a b,(a=x\/a=x+1)/\b=y->wide x (P x y).r (P x y).n a b=P a b:=by
  rintro a b ⟨rfl|rfl,rfl⟩
  ·unfold wide;rw[if_pos rfl,ec]
  ·unfold wide;rw[if_neg (by omega),ht]
 refine⟨?_,λa b ha hb hk=>?_⟩
 ·rw[e x y hx hy];unfold wrt;rw[if_pos (hpt.2 ⟨.inl rfl,rfl⟩),hv x y ⟨.inl rfl,rfl⟩]
 ·rw[e a b ha hb];unfold wrt;by_cases hp:pt2 x y a b=true
  ·rw[if_pos hp,hv a b (hpt.1 hp)]
  ·rw[if_neg hp,if_neg]
   ·exact hk
   ·rintro(⟨q1,q2⟩|⟨q1,q2,q3⟩)
    ·obtain⟨e1,rfl⟩:=hpt.1 q2;rw[hk] at q1;rcases e1 with e1|e1
     ·exact zny hP hx hy (by rw[hnt];decide) e1 q1
     ·exact hp (hpt.2 ⟨.inl (by omega),rfl⟩)
    ·obtain⟨e1,rfl⟩:=hpt.1 q3;rw[hk] at q1;have:=(hP.tail a b ha hb q1).2;rcases e1 with e1|e1
     ·exact hp (hpt.2 ⟨.inr (by omega),rfl⟩)
     ·rw[e1,ht] at this;have:=congrArg zn.p this;exact absurd (show(2:Int)=1 from this) (by decide)
theorem zqI (hP:Wf s.W s.H P) (hx:x<s.W) (hy:y<s.H) {S:Nat->Nat->Bool} {c:zn} (hc:c.p=0) (hS:∀a b,a<s.W->b<s.H->S a b=true->P a b=c) (hi:S x y=true):zj0 s P (wrt s.G S (λ_ _=>c)) x y:=by
 refine⟨?_,λa b ha hb hk=>?_⟩
 ·unfold wrt;rw[if_pos hi,hS x y hx hy hi]
 ·unfold wrt;by_cases hp:S a b=true
  ·rw[if_pos hp,hS a b ha hb hp]
  ·rw[if_neg hp,if_neg]
   ·exact hk
   ·rintro(⟨q1,q2⟩|⟨q1,q2,q3⟩)
    ·rw[hk] at q1;obtain⟨e1,e2⟩:=hP.head a b ha hb q1;have:=hS (a+1) b e1 hb q2;rw[e2] at this;rw[←this] at hc;exact absurd (show(2:Int)=0 from hc) (by decide)
    ·rw[hk] at q1;obtain⟨e1,e2⟩:=hP.tail a b ha hb q1;have:=hS (a-1) b (by omega) hb q3;rw[e2] at this;rw[←this] at hc;exact absurd (show(1:Int)=0 from hc) (by decide)
theorem zqJ (h:s.Fl) (hx:x<s.W) (hy:y<s.H) {p:Sp} (hpx:p.x=x) (hpy:p.y=y) (hc:blk (zV (s.on p))=P x y):
 ∃S:Nat->Nat->Bool,zm (s.on p) (ze5 P s.W s.H x y).1={s.on p with G:=wrt s.G S (λ_ _=>P x y)}/\(∀a b,a<s.W->b<s.H->S a b=true->P a b=P x y)/\S x y=true/\(ze5 P s.W s.H x y).1.length<=5:=by
 have hB:(s.on p).B=⟨#[]⟩:=h.B;have hle:=zqE (P:=P) s.W x y;have hpos:=zoI (P:=P) (y:=y) hx;have w2:=h.ok.w2;unfold ze5;split
 ·rename_i hl;refine⟨rg x ((x:Int)+zaK P s.W x y) y,?_,?_,?_,?_⟩
  ·obtain⟨l,e,b⟩:=zbi hB 88 (by decide) (by decide) (ZF (n:=(zaK P s.W x y:Int)) (by omega) Z5) (by simp);rw[e];have g0:=zfO b;unfold zL;simp only[g0];rw[zcp (by omega)];simp only[hc];have e1:(s.on p).x=(x:Int):=hpx;have e2:(s.on p).y.toNat=y:=by show p.y.toNat=y;omega
   rw[e1,e2];rfl
  ·intro a b ha hb hS;obtain⟨rfl,h1,h2⟩:=zjv.1 hS;exact zfS (W:=s.W) (by omega) (by omega)
  ·exact zjv.2 ⟨rfl,by omega,by omega⟩
  ·have:=zdn 88 _ _ (ZF (n:=(zaK P s.W x y:Int)) (by omega) Z5);simpa using this
 ·rename_i hl;split
  ·rename_i ha;refine⟨zcv 0 true x y,?_,?_,?_,by rw[zhQ];omega⟩
   ·rw[zi0 hB 74 (by decide) (by decide)];unfold zL;simp[zbU,hc];have e1:(s.on p).x=(x:Int):=hpx;have e2:(s.on p).y=(y:Int):=hpy;rw[e1,e2];rfl
   ·intro a b ha' hb hS;simp[zcv] at hS;rcases hS with q|⟨q,q'⟩
    ·exact zqF ha (by omega) hb ha'
    ·obtain rfl:b=y:=by omega
     exact zfS (W:=s.W) (by omega) (by omega)
   ·simp[zcv]
  ·refine⟨zcv 0 false x y,?_,?_,?_,by rw[zhQ];omega⟩
   ·rw[zi0 hB 75 (by decide) (by decide)];unfold zL;simp[zbU,hc];have e1:(s.on p).x=(x:Int):=hpx;have e2:(s.on p).y=(y:Int):=hpy;rw[e1,e2];rfl
   ·intro a b ha' hb hS;simp[zcv] at hS;obtain⟨q,q'⟩:=hS;obtain rfl:b=y:=by omega
    exact zfS (W:=s.W) (by omega) (by omega)
   ·simp[zcv]
theorem zi5 (h:s.Fl) (hP:Wf s.W s.H P) (hN:∀a b,a<s.W->b<s.H->(P a b).n.Ok) (hx:x<s.W) (hy:y<s.H) (hb:∀a b,a<s.W->b<s.H->b*s.W+a<y*s.W+x->s.G a b=P a b) (hd:s.G x y≠P x y):
 (zm s (zbu s P x y)).Fl/\(zm s (zbu s P x y)).W=s.W/\(zm s (zbu s P x y)).H=s.H/\(zm s (zbu s P x y)).odd=s.odd/\zj0 s P (zm s (zbu s P x y)).G x y/\(zbu s P x y).length<=33:=by
 have ok:=zfr (zbu s P x y) h.ok;have hn:=hN x y hx hy;have hnt:=zsI h hP hx hy hb hd;unfold zbu at *;by_cases he:zaS s P x y=[]
 ·rw[if_pos he] at *;obtain⟨p,e1,hp,hat,hl⟩:=zdo (g:=⟨x,y,(P x y).n,true⟩) h ⟨by show(0:Int)<=x;omega,by show(x:Int)<s.W;omega,by show(0:Int)<=y;omega,by show(y:Int)<s.H;omega,hn⟩;have hat':p.lx=x/\p.ly=y/\p.pen=(P x y).n:=by
   simp[Gl.isAt] at hat;exact⟨hat.1.1,hat.1.2,Pn.eqB_iff.1 hat.2⟩
  obtain⟨l1,l2,l3⟩:=hat';have hwd:wd (P x y).r=1/\(P x y).p=0\/wd (P x y).r=2/\(P x y).p=1/\x+1<s.W:=by
   rcases hP.part x y hx hy with⟨a,b⟩|⟨a,b⟩|⟨a,b⟩
   ·exact .inl ⟨b,a⟩
   ·exact .inr ⟨b,a,(hP.head x y hx hy a).1⟩
   ·exact absurd a hnt
  obtain⟨q,q1,q2⟩:=zuq h (f:=p) (zw.2 (by omega)) (r:=(P x y).r) (by
   rcases hwd with⟨a,_⟩|⟨a,_,b⟩
   ·exact .inl a
   ·exact .inr ⟨a,by omega⟩)
  have hf:zm s (zb5 s ⟨x,y,(P x y).n,true⟩++zdf (P x y).r)={s.on q with G:=zU s.W s.H s.G x y (P x y).r (P x y).n}:=by
   rw[ZU,e1,zgK (s:=s.on p) h.B (by rcases hwd with⟨a,_⟩|⟨a,_⟩<;>omega),q2,l1,l2,l3]
  rw[hf] at ok ⊢;refine⟨⟨ok,h.B,h.top,h.bot,by show q.pen.Ok;rw[q1,l3];exact hn⟩,rfl,rfl,rfl,?_,?_⟩
  ·rcases hwd with⟨a,b⟩|⟨a,b,_⟩
   ·exact zqG h hP hx hy b a
   ·exact zqH h hP hx hy b a
  ·have:=znw (P x y).r;rw[List.length_append];omega
 ·rw[if_neg he] at *;have hn2:(zaT s (P x y).n.b).Ok:=⟨h.pen.1,h.pen.2.1,hn.2.2.1,hn.2.2.2⟩;obtain⟨p,e1,hp,hat,hl⟩:=zdo (g:=⟨x,y,zaT s (P x y).n.b,false⟩) h ⟨by show(0:Int)<=x;omega,by show(x:Int)<s.W;omega,by show(0:Int)<=y;omega,by show(y:Int)<s.H;omega,hn2⟩;have hat':p.pend=false/\p.x=x/\p.y=y/\p.pen=zaT s (P x y).n.b:=by
   cases hpd:p.pend with
   |true=>simp[Gl.isAt,hpd] at hat
   |false=>
    simp[Gl.isAt,hpd,Sp.lx,Sp.ly] at hat;exact⟨rfl,hat.1.1,hat.1.2,Pn.eqB_iff.1 hat.2⟩
  obtain⟨l0,l1,l2,l3⟩:=hat';have hbk:(P x y).eqB (zi4 (P x y))=true:=by
   cases hq:(P x y).eqB (zi4 (P x y)) with
   |true=>rfl
   |false=>exact absurd (by unfold zaS;rw[if_pos hq]) he
  have hbe:=zn.eqB_iff.1 hbk;have her:zaS s P x y=(ze5 P s.W s.H x y).1:=by
   unfold zaS at he ⊢;rw[if_neg (by rw[hbk];simp)] at he ⊢;split at he
   ·rename_i q;rw[if_pos q]
   ·exact absurd rfl he
  have hbc:blk (zV (s.on p))=P x y:=by
   rw[hbe];show blk ⟨0,p.pen.b,false,false,false⟩=zi4 (P x y);rw[l3];rfl
  obtain⟨S,f1,f2,f3,f4⟩:=zqJ h hx hy l1 l2 hbc;have hf:zm s (zb5 s ⟨x,y,zaT s (P x y).n.b,false⟩++zaS s P x y)={s.on p with G:=wrt s.G S (λ_ _=>P x y)}:=by
   rw[ZU,e1,her,f1]
  rw[hf] at ok ⊢;refine⟨⟨ok,h.B,h.top,h.bot,by show p.pen.Ok;rw[l3];exact hn2⟩,rfl,rfl,rfl,?_,?_⟩
  ·exact zqI hP hx hy (by rw[hbe];rfl) f2 f3
  ·rw[List.length_append,her];omega
end
structure zeI (W H:Nat) (P:Nat->Nat->zn):Prop where
 wf:Wf W H P
 pen:∀a b,a<W->b<H->(P a b).n.Ok
structure zhd (s:Rs) (P:Nat->Nat->zn) (b0:List UInt8) (i:Nat) (st:Rs × List UInt8):Prop where
 fl:st.1.Fl
 W:st.1.W=s.W
 H:st.1.H=s.H
 odd:st.1.odd=s.odd
 done:∀a b,a<s.W->b<s.H->b*s.W+a<i->st.1.G a b=P a b
 keep:∀a b,a<s.W->b<s.H->s.G a b=P a b->st.1.G a b=P a b
 told:∃m,st.2=b0++m/\zm s m=st.1/\m.length<=33*za2 (λj=>ZN s P (j%s.W) (j/s.W)) i
section
variable {s:Rs} {P:Nat->Nat->zn}
theorem zeJ {x y:Nat}:ZN s P x y=true↔s.G x y≠P x y:=by
 unfold ZN;rw[Bool.not_eq_true',zn.eqB_not]
theorem zgl (h:s.Fl) (hP:zeI s.W s.H P) (b0:List UInt8):∀i,i<=s.H*s.W->zhd s P b0 i (zaw P s.W (s,b0) i):=by
 have w1:=h.ok.w1;intro i;induction i with
 |zero=>
  intro _;exact⟨h,rfl,rfl,rfl,λa b _ _ q=>absurd q (by omega),λ_ _ _ _ q=>q,[],by simp[zaw],rfl,Nat.zero_le _⟩
 |succ i ih=>
  intro hi;have I:=ih (by omega);show zhd s P b0 (i+1) (zgj P (zaw P s.W (s,b0) i) (i%s.W) (i/s.W));generalize zaw P s.W (s,b0) i=st at I;have hx:i%s.W<s.W:=Nat.mod_lt _ (by omega);have hy:i/s.W<s.H:=Nat.div_lt_of_lt_mul (by rw[Nat.mul_comm];omega);have hxy:i/s.W*s.W+i%s.W=i:=by rw[Nat.mul_comm];exact Nat.div_add_mod i s.W
  have hcn:za2 (λj=>ZN s P (j%s.W) (j/s.W)) (i+1)=za2 (λj=>ZN s P (j%s.W) (j/s.W)) i+(if ZN s P (i%s.W) (i/s.W)=true then 1 else 0):=rfl;generalize i%s.W=x at *;generalize i/s.W=y at *;have hsplit:∀a b,a<s.W->b<s.H->b*s.W+a<i+1->b*s.W+a<i\/(a=x/\b=y):=by
   intro a b ha hb q;by_cases e:b*s.W+a=i
   ·exact .inr (zcd ha hx (by omega))
   ·exact .inl (by omega)
  obtain⟨m,m1,m2,m3⟩:=I.told;unfold zgj;cases hd:ZN st.1 P x y with
  |false=>
   rw[if_neg (by decide)];have he:st.1.G x y=P x y:=by
    have:=hd;unfold ZN at this;exact zn.eqB_iff.1 (by simpa using this)
   refine⟨I.fl,I.W,I.H,I.odd,λa b ha hb q=>?_,I.keep,m,m1,m2,by rw[hcn];split<;>omega⟩;rcases hsplit a b ha hb q with e|⟨rfl,rfl⟩
   ·exact I.done a b ha hb e
   ·exact he
  |true=>
   rw[if_pos rfl];have hd':=zeJ.1 hd;have hds:=zeJ.2 (λq=>hd' (I.keep x y hx hy q));obtain⟨a1,a2,a3,a4,a5,a6⟩:=zi5 (s:=st.1) (P:=P) (x:=x) (y:=y) I.fl (by rw[I.W,I.H];exact hP.wf) (by rw[I.W,I.H];exact hP.pen) (by rw[I.W];exact hx) (by rw[I.H];exact hy) (by rw[I.W,I.H];intro a b ha hb q;exact I.done a b ha hb (by omega)) hd';have kp:=λa b ha hb q=>a5.keep a b (by rw[I.W];exact ha) (by rw[I.H];exact hb) q;refine⟨a1,a2.trans I.W,a3.trans I.H,a4.trans I.odd,λa b ha hb q=>?_,λa b ha hb q=>kp a b ha hb (I.keep a b ha hb q),m++zbu st.1 P x y,by rw[m1];simp,by rw[ZU,m2],?_⟩
   ·rcases hsplit a b ha hb q with e|⟨rfl,rfl⟩
    ·exact kp a b ha hb (I.done a b ha hb e)
    ·exact a5.it
   ·rw[hcn,if_pos hds,List.length_append];omega
theorem zi6 {p q:Nat->Bool} {n:Nat} (h:∀i,i<n->p i=q i):za2 p n=za2 q n:=by
 induction n with
 |zero=>rfl
 |succ n ih=>
  unfold za2;rw[ih (λi hi=>h i (by omega)),h n (by omega)]
theorem zeK (h:s.Fl) {n:Int} (h0:n≠0) (h1:-100<n) (h2:n<100):zm s (zad s n)={s with pen:=zaT s 0,G:=zt s.top s.bot n Pn.plain s.G}:=by
 unfold zad;have hp:(zaT s 0).Ok:=⟨h.pen.1,h.pen.2.1,Int.le_refl 0,by show(0:Int)<=8;omega⟩;rw[ZU,zfQ h.B hp,zkZ (s:={s with pen:=zaT s 0}) h.B h0 h1 h2];rfl
theorem zgN (h:s.Fl) {n:Int} (h0:n≠0) (h1:-100<n) (h2:n<100):(zm s (zad s n)).Fl:=by
 have ok:=zfr (zad s n) h.ok;rw[zeK h h0 h1 h2] at ok ⊢;exact⟨ok,h.B,h.top,h.bot,⟨h.pen.1,h.pen.2.1,Int.le_refl 0,by show(0:Int)<=8;omega⟩⟩
theorem zfs (h:s.Fl) {n:Int} (h1:-100<n) (h2:n<100):(zad s n).length<=10:=by
 unfold zad;have a:=zoC s.pen (v:=0) (by omega) (by omega);have b:=zgd h1 h2 83 84;have a':(zcF s.pen (zaT s 0)).length<=5:=a;have:=h.B;rw[List.length_append];omega
theorem zgO (h:s.Fl):ZC s P 0=za2 (λj=>ZN s P (j%s.W) (j/s.W)) (s.H*s.W):=by
 have w1:=h.ok.w1;refine zi6 (λi hi=>?_);have hx:i%s.W<s.W:=Nat.mod_lt _ (by omega);have hy:=Nat.div_lt_of_lt_mul (by rw[Nat.mul_comm];omega);show(!(zcB s (i%s.W) ((i/s.W:Nat)+0)).eqB _)=_;generalize i/s.W=y at *;generalize i%s.W=x at *;unfold zcB;rw[if_pos (zw.2 (by omega))];unfold ZN;have:((y:Int)+0).toNat=y:=by omega
 rw[this]
theorem ziA (h:s.Fl) {n:Int} (h0:n≠0) (h1:-100<n) (h2:n<100):ZC s P n=za2 (λj=>ZN (zm s (zad s n)) P (j%s.W) (j/s.W)) (s.H*s.W):=by
 have w1:=h.ok.w1;rw[zeK h h0 h1 h2];refine zi6 (λi hi=>?_);have hx:i%s.W<s.W:=Nat.mod_lt _ (by omega);have hy:=Nat.div_lt_of_lt_mul (by rw[Nat.mul_comm];omega);show(!(zcB s (i%s.W) ((i/s.W:Nat)+n)).eqB _)=(!(zt s.top s.bot n Pn.plain s.G (i%s.W) (i/s.W)).eqB _);generalize i/s.W=y at *;generalize i%s.W=x at *;congr 2;unfold zcB zt;rw[h.top,h.bot,if_pos (show(0:Int)<=(y:Int)/\(y:Int)<=(s.H:Int)-1 by omega)];by_cases hc:(0:Int)<=(y:Int)+n/\(y:Int)+n<=(s.H:Int)-1
 ·rw[if_pos hc,if_pos (zw.2 (by omega))]
 ·rw[if_neg hc,if_neg (λq=>hc (by have:=zw.1 q;omega))]
structure zi7 (s:Rs) (P:Nat->Nat->zn) (b:List UInt8):Prop where
 fl:(zm s b).Fl
 W:(zm s b).W=s.W
 H:(zm s b).H=s.H
 odd:(zm s b).odd=s.odd
 eq:ZZ s.W s.H (zm s b).G P
theorem zhW (h:s.Fl) (hP:zeI s.W s.H P) {n:Int} (h1:-20<=n) (h2:n<=20):zi7 s P (ZV s P n)/\(ZV s P n).length<=(if n=0 then 0 else 10)+33*ZC s P n:=by
 unfold ZV zgk;by_cases h0:n=0
 ·subst h0;rw[if_pos rfl,if_pos rfl,zgO h];have I:=zgl h hP [] (s.H*s.W) (Nat.le_refl _);generalize zaw P s.W (s,[]) (s.H*s.W)=st at I;obtain⟨m,m1,m2,m3⟩:=I.told;rw[List.nil_append] at m1;rw[m1];refine⟨⟨by rw[m2];exact I.fl,by rw[m2];exact I.W,by rw[m2];exact I.H,by rw[m2];exact I.odd,λa b ha hb=>?_⟩,by omega⟩;rw[m2];exact I.done a b ha hb (zau ha hb)
 ·rw[if_neg h0,if_neg h0,ziA h h0 (by omega) (by omega)];have hs:=zeK h h0 (n:=n) (by omega) (by omega);have hfl:=zgN h h0 (n:=n) (by omega) (by omega);have hl:=zfs h (n:=n) (by omega) (by omega);have eW:(zm s (zad s n)).W=s.W:=by rw[hs]
  have eH:(zm s (zad s n)).H=s.H:=by rw[hs]
  have eo:(zm s (zad s n)).odd=s.odd:=by rw[hs]
  have I:=zgl hfl (P:=P) (by rw[eW,eH];exact hP) (zad s n) (s.H*s.W) (by rw[eW,eH];exact Nat.le_refl _);rw[eW] at I;generalize zaw P s.W (zm s (zad s n),zad s n) (s.H*s.W)=st at I;obtain⟨m,m1,m2,m3⟩:=I.told;rw[eW] at m3;have mf:zm s st.2=st.1:=by rw[m1,ZU,m2]
  refine⟨⟨by rw[mf];exact I.fl,by rw[mf];exact I.W.trans eW,by rw[mf];exact I.H.trans eH,by rw[mf];exact I.odd.trans eo,λa b ha hb=>?_⟩,?_⟩
  ·rw[mf];exact I.done a b (by rw[eW];exact ha) (by rw[eH];exact hb) (by rw[eW];exact zau ha hb)
  ·rw[m1,List.length_append];omega
structure zwM (s:Rs) (P:Nat->Nat->zn) (b:List UInt8):Prop where
 re:zi7 s P b
 few:b.length<=64*ZC s P 0+16
 none:ZC s P 0=0->b=[]
 moved:∀n:Int,-(s.H:Int)<=n->n<=s.H->b.length<=64*ZC s P n+24
theorem zk8 (h:s.Fl) (hP:zeI s.W s.H P):zwM s P (zdw s P):=by
 have h2:=h.ok.h2;obtain⟨n1,⟨n2,n3⟩,n4⟩:=znx (s:=s) (P:=P) s.H;obtain⟨r1,r2⟩:=zhW h hP (n:=0) (by omega) (by omega);rw[if_pos rfl] at r2;obtain⟨q1,q2⟩:=zhW h hP (n:=(zay s P s.H).1) (by omega) (by omega);rw[←n1] at q2;unfold zdw;by_cases hc:(zay s P s.H).1≠0/\(ZV s P (zay s P s.H).1).length<(ZV s P 0).length
 ·rw[if_pos hc];rw[if_neg hc.1] at q2;refine⟨q1,by omega,λe=>?_,λn a b=>?_⟩
  ·exact absurd (by rw[zoJ e]) hc.1
  ·have:=n4 n a b;omega
 ·rw[if_neg hc];refine⟨r1,by omega,λe=>?_,λn a b=>?_⟩
  ·exact List.eq_nil_of_length_eq_zero (by omega)
  ·have:=n4 n a b;by_cases e0:(zay s P s.H).1=0
   ·rw[e0] at n1;omega
   ·rw[if_neg e0] at q2;have:¬(ZV s P (zay s P s.H).1).length<(ZV s P 0).length:=λq=>hc ⟨e0,q⟩;omega
end
section
variable {L:List Wn} {rk:Int->Nat} {K:Nat}
theorem zfT (T:ZT L rk K):∀(f:Nat) (v:Wn) (x y:Int),v∈L->K<=rk v.n+f->Sub L v.n (zah L f v x y).1.n:=by
 intro f;induction f with
 |zero=>intro v x y _ _;exact .refl
 |succ f ih=>
  intro v x y hv hk;rw[T.ownSucc hv hk];cases hn:zcy L v.n x y with
  |none=>exact .refl
  |some u=>
   obtain⟨hu,hp,_,_⟩:=zcZ hn;have:=(T.up u hu (by have:=T.pos hv;omega)).2;rw[hp] at this;have h1:=ih u (x-u.x) (y-u.y) hu (by omega);have h2:Sub L v.n u.n:=.step hu (by rw[hp];exact .refl);exact h2.trans h1
theorem zsJ (T:ZT L rk K):∀(f:Nat) (v:Wn) (x y x' y':Int),v∈L->K<=rk v.n+f->(zah L f v x y).1.n=(zah L f v x' y').1.n →
 (zah L f v x y).2.1-x=(zah L f v x' y').2.1-x'/\(zah L f v x y).2.2-y=(zah L f v x' y').2.2-y':=by
 intro f;induction f with
 |zero=>intro v x y x' y' _ _ _;exact⟨by show x-x=x'-x';omega,by show y-y=y'-y';omega⟩
 |succ f ih=>
  intro v x y x' y' hv hk he;have hv0:=T.pos hv;have hup:∀ {a b:Int} {u:Wn},zcy L v.n a b=some u->u∈L/\u.par=v.n/\rk v.n<rk u.n:=fun {a b u} q=>by
   obtain⟨hu,hp,_,_⟩:=zcZ q;have:=(T.up u hu (by omega)).2;rw[hp] at this;exact⟨hu,hp,this⟩
  rw[T.ownSucc hv hk] at he ⊢;rw[T.ownSucc hv hk] at he ⊢;cases hn:zcy L v.n x y with
  |none=>
   rw[hn] at he;cases hn':zcy L v.n x' y' with
   |none=>exact⟨by show x-x=x'-x';omega,by show y-y=y'-y';omega⟩
   |some u'=>
    rw[hn'] at he;obtain⟨hu,hp,hr⟩:=hup hn';have hs:=(zfT T f u' (x'-u'.x) (y'-u'.y) hu (by omega)).rank T (T.pos hu);have he':v.n=(zah L f u' (x'-u'.x) (y'-u'.y)).1.n:=he;rw[←he'] at hs;omega
  |some u=>
   rw[hn] at he;obtain⟨hu,hp,hr⟩:=hup hn;cases hn':zcy L v.n x' y' with
   |none=>
    rw[hn'] at he;have hs:=(zfT T f u (x-u.x) (y-u.y) hu (by omega)).rank T (T.pos hu);have he':(zah L f u (x-u.x) (y-u.y)).1.n=v.n:=he;rw[he'] at hs;omega
   |some u'=>
    rw[hn'] at he;obtain⟨hu',hp',hr'⟩:=hup hn';have he':(zah L f u (x-u.x) (y-u.y)).1.n=(zah L f u' (x'-u'.x) (y'-u'.y)).1.n:=he;have hs:=zfT T f u (x-u.x) (y-u.y) hu (by omega);have hs':=zfT T f u' (x'-u'.x) (y'-u'.y) hu' (by omega);rw[←he'] at hs';have hne:∀ {a b:Wn},a∈L->b∈L->a.par=v.n->b.par=v.n->rk v.n<rk a.n->Sub L a.n b.n->a=b:=by
     intro a b ha hb hap hbp har hab;rcases hab.last with e|⟨c,hc,e,hac⟩
     ·exact(zam T.nd hb ha e).symm
     ·have:c=b:=zam T.nd hc hb e;rw[this,hbp] at hac;have:=(hac.rank T (T.pos ha)).1;omega
    have huu:u=u':=by
     rcases Sub.chain T hs hs' with q|q
     ·exact hne hu hu' hp hp' hr q
     ·exact(hne hu' hu hp' hp hr' q).symm
    subst huu;have:=ih u (x-u.x) (y-u.y) (x'-u.x) (y'-u.y) hu (by omega) he';show(zah L f u (x-u.x) (y-u.y)).2.1-x=(zah L f u (x'-u.x) (y'-u.y)).2.1-x'/\(zah L f u (x-u.x) (y-u.y)).2.2-y=(zah L f u (x'-u.x) (y'-u.y)).2.2-y';omega
def zqK (L:List Wn):Prop:=∀v∈L,zeI v.W v.H v.G
theorem zur (T:ZT L rk K) (hw:zqK L) {r:Wn} (hr:r∈L):zeI r.W r.H (λx y=>zcz L K r x y):=by
 have hK:K<=rk r.n+K:=by omega
 have fact:∀x y:Nat,x<r.W->y<r.H->∃o:Wn,∃a b:Nat,o∈L/\a<o.W/\b<o.H/\zah L K r x y=(o,(a:Int),(b:Int)):=by
  intro x y hx hy;obtain⟨h1,h2⟩:=T.ownIn K r x y hr hK (zw.2 (by omega));obtain⟨a0,a1,b0,b1⟩:=zw.1 h2;refine⟨_,(zah L K r x y).2.1.toNat,(zah L K r x y).2.2.toNat,h1,by omega,by omega,?_⟩;have e1:((zah L K r x y).2.1.toNat:Int)=(zah L K r x y).2.1:=by omega
  have e2:((zah L K r x y).2.2.toNat:Int)=(zah L K r x y).2.2:=by omega
  rw[e1,e2]
 have val:∀x y:Nat,∀ {o:Wn} {a b:Nat},zah L K r x y=(o,(a:Int),(b:Int))->zcz L K r x y=if (o.G a b).p=1 then za8 L K r o (o.G a b) ((x:Int)+1) y else if (o.G a b).p=2 then za8 L K r o (o.G a b) ((x:Int)-1) y else o.G a b:=by
  intro x y o a b e;unfold zcz;rw[e];simp only[Int.toNat_natCast]
 have half:∀(x y x':Nat) {o:Wn} {a b:Nat},x<r.W->y<r.H->zah L K r x y=(o,(a:Int),(b:Int))->o∈L->inG r.W r.H x' y=true->(zah L K r x' y).1.n=o.n->zah L K r x' y=(o,(a:Int)+(x'-x),(b:Int)):=by
  intro x y x' o a b hx hy e ho hin hn;have hx':x'<r.W:=by have:=zw.1 hin;omega
  obtain⟨o',a',b',ho',_,_,e'⟩:=fact x' y hx' hy;rw[e'] at hn;have heq:=zam T.nd ho' ho hn;subst heq;have:=zsJ T K r x y x' y hr hK (by rw[e,e']);rw[e,e'] at this;rw[e'];have h1:(a':Int)=(a:Int)+(x'-x):=by have:=this.1;simp only at this;omega
  have h2:(b':Int)=(b:Int):=by have:=this.2;simp only at this;omega
  rw[h1,h2]
 have blanks:∀(c:zn),(blk c.n).p=0/\wd (blk c.n).r=1:=λc=>⟨rfl,ze8⟩;refine⟨⟨λx y hx hy=>?_,λx y hx hy hp=>?_,λx y hx hy hp=>?_⟩,λx y hx hy=>?_⟩
 ·obtain⟨o,a,b,ho,ha,hb,e⟩:=fact x y hx hy;have W:=(hw o ho).wf;rw[val x y e];rcases W.part a b ha hb with⟨p,q⟩|⟨p,q⟩|⟨p,q⟩
  ·rw[if_neg (by rw[p];decide),if_neg (by rw[p];decide)];exact .inl ⟨p,q⟩
  ·rw[if_pos p];unfold za8;split
   ·exact .inr (.inl ⟨p,q⟩)
   ·exact .inl (blanks _)
  ·rw[if_neg (by rw[p];decide),if_pos p];unfold za8;split
   ·exact .inr (.inr ⟨p,q⟩)
   ·exact .inl (blanks _)
 ·obtain⟨o,a,b,ho,ha,hb,e⟩:=fact x y hx hy;have W:=(hw o ho).wf;rw[val x y e] at hp ⊢;rcases W.part a b ha hb with⟨p,q⟩|⟨p,q⟩|⟨p,q⟩
  ·rw[if_neg (by rw[p];decide),if_neg (by rw[p];decide),p] at hp;exact absurd hp (by decide)
  ·rw[if_pos p] at hp ⊢;unfold za8 at hp ⊢;split at hp
   ·rename_i hc;rw[if_pos hc];obtain⟨ht1,ht2⟩:=W.head a b ha hb p;have hin:=hc.1;have hx1:x+1<r.W:=by have:=zw.1 hin;omega
    have e2:=half x y (x+1) hx hy e ho (zw.2 (by omega)) hc.2;have e3:zah L K r ((x+1:Nat):Int) y=(o,((a+1:Nat):Int),(b:Int)):=by
     rw[e2];congr 1;congr 1;omega
    refine⟨hx1,?_⟩;rw[val (x+1) y e3,ht2];rw[if_neg (by simp),if_pos rfl];unfold za8;have hb':((x+1:Nat):Int)-1=(x:Int):=by omega
    rw[hb',if_pos ⟨zw.2 (by omega),by rw[e]⟩]
   ·exact absurd (show(0:Int)=1 from hp) (by decide)
  ·rw[if_neg (by rw[p];decide),if_pos p] at hp;unfold za8 at hp;split at hp
   ·rw[p] at hp;exact absurd hp (by decide)
   ·exact absurd (show(0:Int)=1 from hp) (by decide)
 ·obtain⟨o,a,b,ho,ha,hb,e⟩:=fact x y hx hy;have W:=(hw o ho).wf;rw[val x y e] at hp ⊢;rcases W.part a b ha hb with⟨p,q⟩|⟨p,q⟩|⟨p,q⟩
  ·rw[if_neg (by rw[p];decide),if_neg (by rw[p];decide),p] at hp;exact absurd hp (by decide)
  ·rw[if_pos p] at hp;unfold za8 at hp;split at hp
   ·rw[p] at hp;exact absurd hp (by decide)
   ·exact absurd (show(0:Int)=2 from hp) (by decide)
  ·rw[if_neg (by rw[p];decide),if_pos p] at hp ⊢;unfold za8 at hp ⊢;split at hp
   ·rename_i hc;rw[if_pos hc];obtain⟨ht1,ht2⟩:=W.tail a b ha hb p;have hin:=hc.1;have hx1:1<=x:=by have:=zw.1 hin;omega
    have ex:((x-1:Nat):Int)=(x:Int)-1:=by omega
    have e2:=half x y (x-1) hx hy e ho (zw.2 (by omega)) (by rw[ex];exact hc.2);have e3:zah L K r ((x-1:Nat):Int) y=(o,((a-1:Nat):Int),(b:Int)):=by
     rw[e2];congr 1;congr 1;omega
    refine⟨hx1,?_⟩;rw[val (x-1) y e3,ht2];rw[if_pos rfl];unfold za8;have hb':((x-1:Nat):Int)+1=(x:Int):=by omega
    rw[hb',if_pos ⟨zw.2 (by omega),by rw[e]⟩]
   ·exact absurd (show(0:Int)=2 from hp) (by decide)
 ·obtain⟨o,a,b,ho,ha,hb,e⟩:=fact x y hx hy;have hn:=(hw o ho).pen a b ha hb;rw[val x y e];split
  ·unfold za8;split
   ·exact hn
   ·exact hn
  ·split
   ·unfold za8;split
    ·exact hn
    ·exact hn
   ·exact hn
end
def zbR (W H:Nat) (G:Nat->Nat->zn):Prop:=∀a b,a<W->b<H->(G a b).n.Ok
def zaj (L:List Wn):Prop:=∀v∈L,zbR v.W v.H v.G
theorem zfU:Pn.plain.Ok:=by unfold Pn.Ok Pn.plain;decide
theorem znz {p:Pn} (h:zdC p=true):p.Ok:=zpM.1 h
theorem zhX (W H:Nat):zbR W H (λ_ _=>blk Pn.plain):=λ_ _ _ _=>zfU
section
variable {W H:Nat} {G:Nat->Nat->zn}
theorem zbR.upd (h:zbR W H G) (x y:Nat) {c:zn} (hc:c.n.Ok):zbR W H (upd G x y c):=λa b ha hb=>by
 unfold Go.Proofs.YtjlfibhbfdckpaaGreatDoor.upd;split
 ·exact hc
 ·exact h a b ha hb
theorem zbR.set (h:zbR W H G) (x y:Int) {c:zn} (hc:c.n.Ok):zbR W H (setG W H G x y c):=by
 unfold setG;split
 ·rename_i hin;have hin:=zw.1 hin;have h1:(G x.toNat y.toNat).n.Ok:=h _ _ (by omega) (by omega);split
  ·exact(h.upd _ _ (by rw[zgx];exact h1)).upd _ _ hc
  ·split
   ·exact(h.upd _ _ (by rw[zgx];exact h1)).upd _ _ hc
   ·exact h.upd _ _ hc
 ·exact h
theorem zbR.write (h:zbR W H G) (x y r:Int) {p:Pn} (hp:p.Ok):zbR W H (zU W H G x y r p):=by
 unfold zU;split
 ·exact h.set x y hp
 ·have h2:=(h.set x y (c:=blk p) (by rw[zgx];exact hp)).set (x+1) y (c:=blk p) (by rw[zgx];exact hp);split
  ·exact(h2.upd _ _ hp).upd _ _ hp
  ·exact h2
theorem zbR.writeAll {y:Int} {p:Pn} (hp:p.Ok):∀(l:List Int) (x:Int) {G:Nat->Nat->zn},zbR W H G->zbR W H (Go.Proofs.YtjlfibhbfdckpaaGreatDoor.writeAll W H y p x l G)
 |[],_,_,h=>h
 |r::l,x,_,h=>zbR.writeAll hp l (x+wd r) (h.write x y r hp)
theorem zbR.wrt (h:zbR W H G) (P:Nat->Nat->Bool) {v:Nat->Nat->zn} (hv:∀a b,a<W->b<H->P a b=true->(v a b).n.Ok):zbR W H (wrt G P v):=λa b ha hb=>by
 unfold Go.Proofs.YtjlfibhbfdckpaaGreatDoor.wrt;split
 ·rename_i hP;exact hv a b ha hb hP
 ·split
  ·rw[zgx];exact h a b ha hb
  ·exact h a b ha hb
theorem zbR.fill (h:zbR W H G) (x y ww hh:Int) {p:Pn} (hp:p.Ok):∀j,zbR W H (za0 W x y ww hh p G j):=by
 intro j;induction j with
 |zero=>exact h
 |succ j ih=>
  unfold za0;split
  ·exact ih.wrt _ (λa b _ _ _=>by rw[zgx];exact hp)
  ·exact ih
theorem zbR.scroll (h:zbR W H G) (top bot n:Int) (ht:0<=top) (hb:bot<H) {p:Pn} (hp:p.Ok):zbR W H (zt top bot n p G):=λa b ha hb'=>by
 unfold zt;split
 ·split
  ·exact h _ _ ha (by omega)
  ·rw[zgx];exact hp
 ·exact h _ _ ha hb'
theorem zbR.sized (h:zbR W H G) (W' H':Nat):zbR W' H' (ZL W H W' G):=λa b _ _=>by
 have h1:((if a<W/\b<H then G a b else blk Pn.plain):zn).n.Ok:=by
  split
  ·rename_i hc;exact h a b hc.1 hc.2
  ·exact zfU
 unfold ZL zfC;simp only[];generalize (if a<W/\b<H then G a b else blk Pn.plain)=c at h1 ⊢;split
 ·rw[zgx];exact h1
 ·exact h1
end
section
variable {L:List Wn}
theorem zaj.upd (h:zaj L) (n:Int) {f:Wn->Wn} (hf:∀u∈L,u.n=n->zbR (f u).W (f u).H (f u).G):zaj (Zb L n f):=by
 intro v hv;unfold Zb at hv;obtain⟨u,hu,rfl⟩:=List.mem_map.1 hv;split
 ·rename_i e;exact hf u hu e
 ·exact h u hu
theorem zaj.filt (h:zaj L) (p:Wn->Bool):zaj (L.filter p):=λv hv=>h v (List.mem_filter.1 hv).1
theorem zaj.del (h:zaj L) (n:Int):zaj (delL L n):=h.filt _
theorem zaj.app (h:zaj L) {v:Wn} (hv:zbR v.W v.H v.G):zaj (L ++ [v]):=λu hu=>by
 rcases List.mem_append.1 hu with hu|hu
 ·exact h u hu
 ·obtain rfl:u=v:=by simpa using hu
  exact hv
theorem zaj.top (h:zaj L) {v:Wn} (hv:v∈L) (p:Int):zaj (zcA L v p):=zaj.app (h.filt _) (h v hv)
theorem zaj.bot (h:zaj L) {v:Wn} (hv:v∈L):zaj (zcM L v):=by
 have h1:zaj (zJ L v.n):=h.filt _;unfold zcM;split
 ·intro u hu;obtain rfl:u=v:=by simpa using hu
  exact h _ hv
 ·rename_i r t e;rw[e] at h1;intro u hu;rcases List.mem_cons.1 hu with rfl|hu
  ·exact h1 _ List.mem_cons_self
  ·rcases List.mem_cons.1 hu with rfl|hu
   ·exact h _ hv
   ·exact h1 u (List.mem_cons_of_mem _ hu)
theorem zk9 (W H:Nat):zaj [Zf W H]:=λv hv=>by
 obtain rfl:v=Zf W H:=by simpa using hv
 exact zhX W H
end
def Fits (L:List Wn) (W H:Nat):Prop:=∀r∈L,r.n=0->r.W=W/\r.H=H
section
variable {L:List Wn} {W H:Nat}
theorem Fits.upd (h:Fits L W H) (n:Int) {f:Wn->Wn} (hf:∀u∈L,u.n=n->(f u).n=0->u.n=0/\(f u).W=u.W/\(f u).H=u.H):Fits (Zb L n f) W H:=by
 intro v hv;unfold Zb at hv;obtain⟨u,hu,rfl⟩:=List.mem_map.1 hv;split
 ·rename_i e;intro h0;obtain⟨a,b,c⟩:=hf u hu e h0;rw[b,c];exact h u hu a
 ·exact h u hu
theorem Fits.filt (h:Fits L W H) (p:Wn->Bool):Fits (L.filter p) W H:=λv hv=>h v (List.mem_filter.1 hv).1
theorem Fits.del (h:Fits L W H) (n:Int):Fits (delL L n) W H:=h.filt _
theorem Fits.app (h:Fits L W H) {v:Wn} (hv:v.n=0->v.W=W/\v.H=H):Fits (L ++ [v]) W H:=λu hu=>by
 rcases List.mem_append.1 hu with hu|hu
 ·exact h u hu
 ·obtain rfl:u=v:=by simpa using hu
  exact hv
theorem Fits.top (h:Fits L W H) {v:Wn} (hv:v∈L) (p:Int):Fits (zcA L v p) W H:=Fits.app (h.filt _) (h v hv)
theorem Fits.bot (h:Fits L W H) {v:Wn} (hv:v∈L):Fits (zcM L v) W H:=by
 have h1:Fits (zJ L v.n) W H:=h.filt _;unfold zcM;split
 ·intro u hu;obtain rfl:u=v:=by simpa using hu
  exact h _ hv
 ·rename_i r t e;rw[e] at h1;intro u hu;rcases List.mem_cons.1 hu with rfl|hu
  ·exact h1 _ List.mem_cons_self
  ·rcases List.mem_cons.1 hu with rfl|hu
   ·exact h _ hv
   ·exact h1 u (List.mem_cons_of_mem _ hu)
end
theorem zmy {s:Rs} (h:s.Fl) {W H:Nat} (w1:1<=W) (w2:W<=40) (h1:1<=H) (h2:H<=20):(zaD s W H).Fl:=
 ⟨zcV h.ok w1 w2 h1 h2,h.B,rfl,rfl,h.pen⟩
theorem zsK {W H:Nat} (w1:1<=W) (w2:W<=40) (h1:1<=H) (h2:H<=20):(zfj W H).Fl:=
 ⟨zg6 w1 w2 h1 h2,rfl,rfl,rfl,zfU⟩
def zg1 (x y:Int) (s:Rs):Rs:=if ZE x y=true then zaD s x.toNat y.toNat else s
theorem zK.winsOk {w:World} {M:Mm} {L:List Wn} {last:Int} {N:Nat} {s:Rs} {t:Pt} (h:zK w M L last N s t) (p:zaj L):zqK L:=λv hv=>⟨(h.win v hv).wf,p v hv⟩
end
end Go.Proofs.YtjlfibhbfdckpaaGreatDoor
