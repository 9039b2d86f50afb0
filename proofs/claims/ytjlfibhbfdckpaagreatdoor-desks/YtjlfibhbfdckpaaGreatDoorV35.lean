import Derived.Test.YtjlfibhbfdckpaaGreatDoorV34
namespace Go.Proofs.YtjlfibhbfdckpaaGreatDoor
set_option maxHeartbeats 64000000
set_option maxRecDepth 100000
section
open Wd (wd)
def wy0:Wy:=⟨[],0,⟨0,0,false,Pn.plain⟩⟩
def gW (l:List Wy) (i:Nat):Wy:=l.getD i wy0
def swL (l:List Wy) (i j:Nat):List Wy:=(l.set i (gW l j)).set j (gW l i)
def upL (l:List Wy) (j:Nat):List Wy:=
 if _h:j≠0/\(gW l j).b.length<(gW l ((j-1)/2)).b.length then upL (swL l ((j-1)/2) j) ((j-1)/2) else l
termination_by j
decreasing_by omega
def zb2 (l:List Wy) (i n:Nat):Nat:=if 2*i+2<n/\(gW l (2*i+2)).b.length<(gW l (2*i+1)).b.length then 2*i+2 else 2*i+1
theorem zk2 (l:List Wy) (i n:Nat) (h:2*i+1<n):zb2 l i n<n/\i<zb2 l i n:=by
 unfold zb2;split<;>omega
def zeg (l:List Wy) (i n:Nat):List Wy:=
 if _h:2*i+1<n/\(gW l (zb2 l i n)).b.length<(gW l i).b.length then zeg (swL l i (zb2 l i n)) (zb2 l i n) n else l
termination_by n - i
decreasing_by have := zk2 l i n _h.1; omega
theorem zjV {l:List Wy} {i j:Nat} (hi:i<l.length) (hj:j<l.length):List.Perm (swL l i j) l:=by
 unfold swL gW;have ei:l.getD i wy0=l[i]:=by simp[List.getD,hi]
 have ej:l.getD j wy0=l[j]:=by simp[List.getD,hj]
 rw[ei,ej];exact List.set_set_perm hi hj
theorem zc6 (l:List Wy) (i j:Nat):(swL l i j).length=l.length:=by simp[swL]
theorem zsC:∀(j:Nat) (l:List Wy),j<l.length->List.Perm (upL l j) l:=by
 intro j;induction j using Nat.strongRecOn with
 |_ j ih=>
  intro l hj;rw[upL];split
  ·rename_i h;exact(ih _ (by omega) _ (by rw[zc6];omega)).trans (zjV (by omega) hj)
  ·exact List.Perm.refl _
theorem zoD:∀(d:Nat) (l:List Wy) (i n:Nat),n-i=d->n<=l.length->List.Perm (zeg l i n) l:=by
 intro d;induction d using Nat.strongRecOn with
 |_ d ih=>
  intro l i n hd hn;rw[zeg];split
  ·rename_i h;have hl:=zk2 l i n h.1;exact(ih _ (by omega) _ _ _ rfl (by rw[zc6];exact hn)).trans (zjV (by omega) (by omega))
  ·exact List.Perm.refl _
def zix (l:List Wy):List Wy:=zeg (swL l 0 (l.length-1)) 0 (l.length-1)
def zbD (l:List Wy):Wy:=gW (zix l) (l.length-1)
def zcL (l:List Wy):List Wy:=(zix l).take (l.length-1)
def zfc (l:List Wy) (w:Wy):List Wy:=upL (l ++ [w]) l.length
theorem zi1 {l:List Wy} (h:l≠[]):List.Perm (zix l) l:=by
 have hl:=List.length_pos_iff.2 h;exact(zoD _ _ _ _ rfl (by rw[zc6];omega)).trans (zjV hl (by omega))
theorem zk3 {l:List Wy} (h:l≠[]):List.Perm (zcL l ++ [zbD l]) l:=by
 have hl:=List.length_pos_iff.2 h;have hp:=zi1 h;have hlen:=hp.length_eq;have:zcL l ++ [zbD l]=zix l:=by
  unfold zcL zbD gW;have e:(zix l).getD (l.length-1) wy0=(zix l)[l.length-1]'(by omega):=by simp[List.getD,show l.length-1<(zix l).length by omega]
  rw[e,←List.take_succ_eq_append_getElem,List.take_of_length_le (by omega)]
 rw[this];exact hp
theorem zhS {l:List Wy} (h:l≠[]):(zcL l).length+1=l.length:=by
 have:=(zk3 h).length_eq;simpa using this
theorem zgf (l:List Wy) (w:Wy):List.Perm (zfc l w) (l ++ [w]):=zsC _ _ (by simp)
theorem zqx (l:List Wy) (w:Wy):(zfc l w).length=l.length+1:=by
 have:=(zgf l w).length_eq;simpa using this
def zaF (w st:Wy):Wy:=⟨w.b++st.b,if w.e.pen.eqB st.e.pen=true then w.k else w.b.length,st.e⟩
def Zz (g:Gl):Wy:=⟨zag g.x g.y,0,⟨g.x,g.y,false,g.pen⟩⟩
def zd6 (s:Rs) (g:Gl):List Wy:=[⟨[],0,s.sp⟩,Zz g]
def zfP (s:Rs) (g:Gl) (w:Wy):List UInt8:=w.b.take w.k++zcD s.pen g.pen++w.b.drop w.k
def zaC (n:Nat) (w:Wy) (sts:List Wy) (o:List Wy):List Wy:=sts.foldl (λo st=>if (zaF w st).b.length<n then zfc o (zaF w st) else o) o
def zeE (kn:List Sp) (p:Sp):Bool:=kn.any (λq=>q.eqB p)
def zds (s:Rs) (g:Gl):Nat->List Wy->List Sp->List UInt8
 |0,_,_=>[]
 |m+1,o,kn=>
  if g.isAt (zbD o).e=true then zfP s g (zbD o)
  else if zeE kn (zbD o).e=true then zds s g m (zcL o) kn
  else zds s g m (zaC (zag g.x g.y).length (zbD o) (zbr s (zbD o).e g) (zcL o)) (kn ++ [(zbD o).e])
def zeF (s:Rs):Nat:=8*(4*(s.H*s.W))+2
def zb3 (s:Rs) (g:Gl):List UInt8:=zds s g (zeF s) (zd6 s g) []
theorem zoE {kn:List Sp} {p:Sp}:zeE kn p=true↔p∈kn:=by
 simp only[zeE,List.any_eq_true,Sp.eqB_iff];constructor
 ·rintro⟨q,hq,rfl⟩;exact hq
 ·intro h;exact⟨p,h,rfl⟩
structure zjW (s:Rs) (g:Gl) (w:Wy):Prop where
 inn:w.e.In s
 pen:w.e.pen=s.pen\/w.e.pen=g.pen
 k:w.k<=w.b.length
 len:w.b.length<=(zag g.x g.y).length
 p1:w.e.pen=s.pen->zj s w.b=s.on w.e
 p2:w.e.pen=g.pen->zj s (zfP s g w)=s.on w.e
structure Gl.In (g:Gl) (s:Rs):Prop where
 x0:0<=g.x
 x1:g.x<s.W
 y0:0<=g.y
 y1:g.y<s.H
 pen:g.pen.Ok
section
variable {s:Rs} {g:Gl}
theorem zqy {w:Wy} (h:s.pen=g.pen):zfP s g w=w.b:=by
 unfold zfP;rw[h,zoy,List.append_nil,List.take_append_drop]
theorem zqz (h:s.Fl):zjW s g ⟨[],0,s.sp⟩:=by
 refine⟨zvK h.ok,.inl rfl,Nat.le_refl 0,Nat.zero_le _,λ_=>rfl,λe=>?_⟩;rw[zqy e];rfl
theorem zk4 (h:s.Fl) (hg:g.In s):zjW s g (Zz g):=by
 have ok:=h.ok;have e0:=zfO h.B hg.pen;refine⟨⟨hg.x0,hg.x1,hg.y0,hg.y1,λq=>by cases q⟩,.inr rfl,Nat.zero_le _,Nat.le_refl _,λe=>?_,λ_=>?_⟩
 ·show zj s (zag g.x g.y)=_;rw[zhP h.B hg.x0 hg.x1 hg.y0 hg.y1 ok.w2 ok.h2];have e':g.pen=s.pen:=e;simp only[Rs.on,Zz];rw[e']
 ·show zj s (([]:List UInt8)++zcD s.pen g.pen++zag g.x g.y)=_;rw[List.nil_append,ZS,e0,zhP (s:={s with pen:=g.pen}) h.B hg.x0 hg.x1 hg.y0 hg.y1 ok.w2 ok.h2];rfl
theorem zqA (h:s.Fl) (hg:g.In s) {w:Wy} (hw:zjW s g w):w.e.pen.Ok:=by
 rcases hw.pen with e|e
 ·rw[e];exact h.pen
 ·rw[e];exact hg.pen
theorem zsD (h:s.Fl) (hg:g.In s) {w st:Wy} (hw:zjW s g w) (hs:zqv s w.e g st) (hl:(zaF w st).b.length<(zag g.x g.y).length):zjW s g (zaF w st):=by
 have hn:=zqA h hg hw;by_cases hp:st.e.pen=w.e.pen
 ·have hk:(zaF w st).k=w.k:=by
   show(if w.e.pen.eqB st.e.pen=true then w.k else w.b.length)=w.k;rw[if_pos (Pn.eqB_iff.2 hp.symm)]
  have hf:zj (s.on w.e) st.b=s.on st.e:=by
   rcases hs.how with⟨_,e⟩|⟨e1,e2⟩
   ·exact e
   ·rw[e1,zqo,e2];have:g.pen=w.e.pen:=by rw[←hp,e2];rfl
    rw[this];rfl
  refine⟨hs.inn,by show st.e.pen=_\/st.e.pen=_;rw[hp];exact hw.pen,?_,Nat.le_of_lt hl,λe=>?_,λe=>?_⟩
  ·rw[hk];show w.k<=(w.b++st.b).length;rw[List.length_append];have:=hw.k;omega
  ·show zj s (w.b++st.b)=s.on st.e;rw[ZS,hw.p1 (hp ▸ e),hf]
  ·show zj s (zfP s g (zaF w st))=s.on st.e;have eo:zfP s g (zaF w st)=zfP s g w++st.b:=by
    unfold zfP;rw[hk];show(w.b++st.b).take w.k++zcD s.pen g.pen++(w.b++st.b).drop w.k=_;rw[List.take_append_of_le_length hw.k,List.drop_append_of_le_length hw.k];simp
   rw[eo,ZS,hw.p2 (hp ▸ e),hf]
 ·rcases hs.how with⟨e,_⟩|⟨e1,e2⟩
  ·exact absurd e hp
  ·have eg:st.e.pen=g.pen:=by rw[e2];rfl
   have ew:w.e.pen=s.pen:=by
    rcases hw.pen with q|q
    ·exact q
    ·exact absurd (eg.trans q.symm) hp
   have hk:(zaF w st).k=w.b.length:=by
    show(if w.e.pen.eqB st.e.pen=true then w.k else w.b.length)=_;rw[if_neg (λq=>hp (Pn.eqB_iff.1 q).symm)]
   refine⟨hs.inn,.inr eg,?_,Nat.le_of_lt hl,λe=>?_,λ_=>?_⟩
   ·rw[hk];show w.b.length<=(w.b++st.b).length;rw[List.length_append];omega
   ·exact absurd ((show st.e.pen=s.pen from e).trans ew.symm) hp
   ·show zj s (zfP s g (zaF w st))=s.on st.e;have eo:zfP s g (zaF w st)=w.b++zcD s.pen g.pen:=by
     unfold zfP;rw[hk];show(w.b++st.b).take w.b.length++zcD s.pen g.pen++(w.b++st.b).drop w.b.length=_;rw[e1];simp
    rw[eo,ZS,hw.p1 ew];have e0:zj (s.on w.e) (zcD (s.on w.e).pen g.pen)={s.on w.e with pen:=g.pen}:=zfO (s:=s.on w.e) h.B hg.pen;have e3:(s.on w.e).pen=s.pen:=ew;rw[e3] at e0;rw[e0,e2];rfl
end
theorem zum:∀(N:Nat) (l:List Nat),l.Nodup->(∀x∈l,x<N)->l.length<=N:=by
 intro N;induction N with
 |zero=>
  intro l _ h;cases l with
  |nil=>exact Nat.le_refl 0
  |cons a r=>exact absurd (h a (List.mem_cons_self ..)) (by omega)
 |succ n ih=>
  intro l hd h;by_cases hm:n∈l
  ·have:=ih (l.erase n) (hd.erase n) (λx hx=>by
    have h1:=(List.Nodup.mem_erase_iff hd).1 hx;have:=h x h1.2;have:=h1.1;omega)
   rw[List.length_erase_of_mem hm] at this;omega
  ·have:=ih l hd (λx hx=>by
    have:=h x hx;have:x≠n:=λe=>hm (e ▸ hx);omega)
   omega
def idx (s:Rs) (g:Gl) (p:Sp):Nat:=((p.y.toNat*s.W+p.x.toNat)*2+(if p.pend=true then 1 else 0))*2+(if p.pen.eqB g.pen=true then 1 else 0)
section
variable {s:Rs} {g:Gl}
def zhT (s:Rs) (g:Gl) (p:Sp):Prop:=p.In s/\(p.pen=s.pen\/p.pen=g.pen)
theorem zun {p:Sp} (h:zhT s g p):idx s g p<4*(s.H*s.W):=by
 obtain⟨⟨x0,x1,y0,y1,_⟩,_⟩:=h;have:=zas (W:=s.W) (H:=s.H) (x:=p.x.toNat) (y:=p.y.toNat) (by omega) (by omega);unfold idx;split<;>split<;>omega
theorem zsE {p q:Sp} (hp:zhT s g p) (hq:zhT s g q) (e:idx s g p=idx s g q):p=q:=by
 obtain⟨⟨x0,x1,y0,y1,_⟩,hpp⟩:=hp;obtain⟨⟨x0',x1',y0',y1',_⟩,hqp⟩:=hq;unfold idx at e;have e1:p.y.toNat*s.W+p.x.toNat=q.y.toNat*s.W+q.x.toNat:=by
  revert e;generalize p.y.toNat*s.W+p.x.toNat=a;generalize q.y.toNat*s.W+q.x.toNat=b;intro e;split at e<;>split at e<;>split at e<;>split at e<;>omega
 have e2:(if p.pend=true then 1 else 0)=(if q.pend=true then 1 else 0):=by
  rw[e1] at e;split at e<;>split at e<;>split at e<;>split at e<;>(first|rfl|(simp_all;done)|(exfalso;omega))
 have e3:(if p.pen.eqB g.pen=true then 1 else 0)=(if q.pen.eqB g.pen=true then 1 else 0):=by
  rw[e1,e2] at e;omega
 have e4:=zcb (W:=s.W) (x:=p.x.toNat) (y:=p.y.toNat) (x':=q.x.toNat) (y':=q.y.toNat) (by omega) (by omega) e1;have pe:p.pend=q.pend:=by
  cases hp:p.pend<;>cases hq:q.pend<;>simp[hp,hq] at e2 ⊢
 have ne:p.pen=q.pen:=by
  by_cases c1:p.pen.eqB g.pen=true<;>by_cases c2:q.pen.eqB g.pen=true
  ·rw[Pn.eqB_iff.1 c1,Pn.eqB_iff.1 c2]
  ·rw[if_pos c1,if_neg c2] at e3;cases e3
  ·rw[if_neg c1,if_pos c2] at e3;cases e3
  ·rcases hpp with a|a
   ·rcases hqp with b|b
    ·rw[a,b]
    ·exact absurd (Pn.eqB_iff.2 b) c2
   ·exact absurd (Pn.eqB_iff.2 a) c1
 obtain⟨x,y,pd,n⟩:=p;obtain⟨x',y',pd',n'⟩:=q;simp only at *;congr 1<;>omega
theorem zqB {kn:List Sp} (hd:kn.Nodup) (h:∀p∈kn,zhT s g p):kn.length<=4*(s.H*s.W):=by
 have:=zum (4*(s.H*s.W)) (kn.map (idx s g)) (by
  unfold List.Nodup;rw[List.pairwise_map];exact hd.imp_of_mem (fun {a b} ha hb hne e=>hne (zsE (h a ha) (h b hb) e))) (λx hx=>by
  obtain⟨p,hp,rfl⟩:=List.mem_map.1 hx;exact zun (h p hp))
 simpa using this
structure zc7 (s:Rs) (g:Gl) (o:List Wy) (kn:List Sp):Prop where
 all:∀w∈o,zjW s g w
 st:Zz g∈o
 nd:kn.Nodup
 kn:∀p∈kn,zhT s g p
def zcE (s:Rs) (o:List Wy) (kn:List Sp):Nat:=8*(4*(s.H*s.W)-kn.length)+o.length
theorem zc7.ne {o:List Wy} {kn:List Sp} (h:zc7 s g o kn):o≠[]:=λe=>by
 have:=h.st;rw[e] at this;cases this
theorem zc7.pop {o:List Wy} {kn:List Sp} (h:zc7 s g o kn):zjW s g (zbD o)/\(∀w∈zcL o,zjW s g w)/\(Zz g∈zcL o\/zbD o=Zz g):=by
 have hp:=zk3 h.ne;refine⟨h.all _ (hp.mem_iff.1 (by simp)),λw hw=>h.all _ (hp.mem_iff.1 (by simp[hw])),?_⟩;have:=hp.mem_iff.2 h.st;rcases List.mem_append.1 this with e|e
 ·exact .inl e
 ·exact .inr (List.mem_singleton.1 e).symm
theorem zgJ (g:Gl):g.isAt (Zz g).e=true:=by
 unfold Gl.isAt Zz;simp[Sp.lx,Sp.ly,Pn.eqB_iff.2]
theorem zk5 {n:Nat} {w:Wy}:∀(sts o:List Wy) (v:Wy),v∈zaC n w sts o->v∈o\/∃st∈sts,v=zaF w st/\(zaF w st).b.length<n:=by
 intro sts;induction sts with
 |nil=>intro o v h;exact .inl h
 |cons st r ih=>
  intro o v h;have h':v∈zaC n w r (if (zaF w st).b.length<n then zfc o (zaF w st) else o):=h;rcases ih _ v h' with a|⟨u,hu,e⟩
  ·split at a
   ·rename_i hl;have:=(zgf o (zaF w st)).mem_iff.1 a;rcases List.mem_append.1 this with b|b
    ·exact .inl b
    ·exact .inr ⟨st,List.mem_cons_self ..,List.mem_singleton.1 b,hl⟩
   ·exact .inl a
  ·exact .inr ⟨u,List.mem_cons_of_mem _ hu,e⟩
theorem zjX {n:Nat} {w:Wy}:∀(sts o:List Wy) (v:Wy),v∈o->v∈zaC n w sts o:=by
 intro sts;induction sts with
 |nil=>intro o v h;exact h
 |cons st r ih=>
  intro o v h;refine ih _ v ?_;show v∈(if (zaF w st).b.length<n then zfc o (zaF w st) else o);split
  ·exact(zgf o (zaF w st)).mem_iff.2 (List.mem_append_left _ h)
  ·exact h
theorem zgK {n:Nat} {w:Wy}:∀(sts o:List Wy),(zaC n w sts o).length<=o.length+sts.length:=by
 intro sts;induction sts with
 |nil=>intro o;exact Nat.le_refl _
 |cons st r ih=>
  intro o;have:=ih (if (zaF w st).b.length<n then zfc o (zaF w st) else o);have h1:(if (zaF w st).b.length<n then zfc o (zaF w st) else o).length<=o.length+1:=by
   split
   ·rw[zqx];omega
   ·omega
  show(zaC n w r _).length<=_;simp only[List.length_cons];omega
theorem zc7.known {o:List Wy} {kn:List Sp} (hi:zc7 s g o kn) (hat:g.isAt (zbD o).e=false):zc7 s g (zcL o) kn/\zcE s (zcL o) kn+1=zcE s o kn:=by
 obtain⟨_,h2,h3⟩:=hi.pop;refine⟨⟨h2,?_,hi.nd,hi.kn⟩,?_⟩
 ·rcases h3 with e|e
  ·exact e
  ·rw[e,zgJ] at hat;cases hat
 ·have:=zhS hi.ne;unfold zcE;omega
theorem zc7.fresh (h:s.Fl) (hg:g.In s) {o:List Wy} {kn:List Sp} (hi:zc7 s g o kn) (hat:g.isAt (zbD o).e=false) (hk:zeE kn (zbD o).e=false):
 zc7 s g (zaC (zag g.x g.y).length (zbD o) (zbr s (zbD o).e g) (zcL o)) (kn ++ [(zbD o).e])/\zcE s (zaC (zag g.x g.y).length (zbD o) (zbr s (zbD o).e g) (zcL o)) (kn ++ [(zbD o).e])<zcE s o kn:=by
 obtain⟨h1,h2,h3⟩:=hi.pop;have hnk:(zbD o).e ∉ kn:=λq=>by rw[zoE.2 q] at hk;cases hk
 have hnd:(kn ++ [(zbD o).e]).Nodup:=by
  rw[List.nodup_append];refine⟨hi.nd,by simp,λa ha b hb e=>?_⟩;rw[List.mem_singleton.1 hb] at e;exact hnk (e ▸ ha)
 have hkn:∀p∈kn ++ [(zbD o).e],zhT s g p:=λp hp=>by
  rcases List.mem_append.1 hp with e|e
  ·exact hi.kn p e
  ·rw[List.mem_singleton.1 e];exact⟨h1.inn,h1.pen⟩
 refine⟨⟨λw hw=>?_,zjX _ _ _ ?_,hnd,hkn⟩,?_⟩
 ·rcases zk5 _ _ _ hw with e|⟨st,hst,rfl,hl⟩
  ·exact h2 w e
  ·exact zsD h hg h1 (zqw h h1.inn (zqA h hg h1) hg.x0 hg.x1 hg.y0 hg.y1 st hst) hl
 ·rcases h3 with e|e
  ·exact e
  ·rw[e,zgJ] at hat;cases hat
 ·have a1:=zhS hi.ne;have a2:=zgK (n:=(zag g.x g.y).length) (w:=zbD o) (zbr s (zbD o).e g) (zcL o);have a3:=zi0 s (zbD o).e g;have a4:=zqB hnd hkn;simp only[List.length_append,List.length_cons,List.length_nil] at a4;unfold zcE;simp only[List.length_append,List.length_cons,List.length_nil];omega
theorem zoF (h:s.Fl) (hg:g.In s):∀(m:Nat) (o:List Wy) (kn:List Sp),zc7 s g o kn->zcE s o kn<=m->∃w,zjW s g w/\g.isAt w.e=true/\zds s g m o kn=zfP s g w:=by
 intro m;induction m with
 |zero=>
  intro o kn hi hm;have:0<o.length:=List.length_pos_iff.2 hi.ne;unfold zcE at hm;omega
 |succ m ih=>
  intro o kn hi hm;unfold zds;cases hat:g.isAt (zbD o).e with
  |true=>rw[if_pos rfl];exact⟨_,hi.pop.1,hat,rfl⟩
  |false=>
   rw[if_neg (by decide)];cases hk:zeE kn (zbD o).e with
   |true=>
    rw[if_pos rfl];obtain⟨i1,i2⟩:=hi.known hat;exact ih _ _ i1 (by omega)
   |false=>
    rw[if_neg (by decide)];obtain⟨i1,i2⟩:=hi.fresh h hg hat hk;exact ih _ _ i1 (by omega)
theorem zgg (h:s.Fl) (hg:g.In s):zc7 s g (zd6 s g) []/\zcE s (zd6 s g) []<=zeF s:=by
 refine⟨⟨λw hw=>?_,?_,List.nodup_nil,λp hp=>by cases hp⟩,?_⟩
 ·simp only[zd6,List.mem_cons,List.not_mem_nil,or_false] at hw;rcases hw with rfl|rfl
  ·exact zqz h
  ·exact zk4 h hg
 ·simp[zd6]
 ·simp[zcE,zd6,zeF]
theorem zdm (h:s.Fl) (hg:g.In s):∃p:Sp,zj s (zb3 s g)=s.on p/\p.In s/\g.isAt p=true/\(zb3 s g).length<=28:=by
 obtain⟨i1,i2⟩:=zgg h hg;obtain⟨w,hw,hat,e⟩:=zoF h hg _ _ _ i1 i2;have hn:w.e.pen=g.pen:=by
  unfold Gl.isAt at hat;split at hat
  ·cases hat
  ·simp only[Bool.and_eq_true] at hat;exact Pn.eqB_iff.1 hat.2
 unfold zb3;rw[e];refine⟨w.e,hw.p2 hn,hw.inn,hat,?_⟩;have a1:=zkZ s.pen hg.pen;have a2:=hw.len;have a3:(zag g.x g.y).length<=8:=zga (by have:=hg.x1;have:=h.ok.w2;omega) (by have:=hg.y1;have:=h.ok.h2;omega);have a4:=hw.k;simp only[zfP,List.length_append,List.length_take,List.length_drop];omega
end
def zci (p:Nat->Bool):Nat->Nat->Nat
 |0,_=>0
 |m+1,i=>if p i=true then zci p m (i+1)+1 else 0
theorem zmv (p:Nat->Bool):∀m i,zci p m i<=m:=by
 intro m;induction m with
 |zero=>intro i;exact Nat.le_refl 0
 |succ m ih=>
  intro i;unfold zci;split
  ·have:=ih (i+1);omega
  ·omega
theorem zsF (p:Nat->Bool):∀m i j,i<=j->j<i+zci p m i->p j=true:=by
 intro m;induction m with
 |zero=>intro i j h1 h2;simp[zci] at h2;omega
 |succ m ih=>
  intro i j h1 h2;unfold zci at h2;split at h2
  ·rename_i hp;by_cases e:j=i
   ·rw[e];exact hp
   ·exact ih (i+1) j (by omega) (by omega)
  ·omega
def zaI (P:Nat->Nat->zk) (W x y:Nat):Nat:=zci (λi=>(P i y).eqB (P x y)) (W-x) x
def zdt (P:Nat->Nat->zk) (W H y:Nat) (c:zk):Bool:=(List.range (H-y)).all (λi=>(P 0 (y+i)).eqB c&&decide (W<=zaI P W 0 (y+i)))
def ZL (s:Rs) (P:Nat->Nat->zk) (x y:Nat):Bool:=!(s.G x y).eqB (P x y)
def zdJ (s:Rs) (P:Nat->Nat->zk) (x y:Nat):Nat->Nat
 |0=>0
 |1=>1
 |n+2=>if ZL s P ((x+(n+1))%s.W) (y+(x+(n+1))/s.W)=true then n+2 else zdJ s P x y (n+1)
def zi2 (c:zk):zk:=blk ⟨0,c.n.b,false,false,false⟩
def ze3 (P:Nat->Nat->zk) (W H x y:Nat):List UInt8 × Nat:=
 if x+zaI P W x y<W then(zaP 88 [zb7 (zaI P W x y)],zaI P W x y)
 else if zdt P W H (y+1) (P x y)=true then(zaP 74 [],zaI P W x y+W*(H-(y+1))) else(zaP 75 [],zaI P W x y)
def zaQ (s:Rs) (P:Nat->Nat->zk) (x y:Nat):List UInt8:=
 if (P x y).eqB (zi2 (P x y))=false then[]
 else if (ze3 P s.W s.H x y).1.length<zdJ s P x y (ze3 P s.W s.H x y).2 then(ze3 P s.W s.H x y).1 else[]
def zaR (s:Rs) (b:Int):Pn:={s.pen with b:=b}
def zbs (s:Rs) (P:Nat->Nat->zk) (x y:Nat):List UInt8:=
 if zaQ s P x y=[] then zb3 s ⟨x,y,(P x y).n,true⟩++zdd (P x y).r
 else zb3 s ⟨x,y,zaR s (P x y).n.b,false⟩++zaQ s P x y
def zgh (P:Nat->Nat->zk) (st:Rs × List UInt8) (x y:Nat):Rs × List UInt8:=
 if ZL st.1 P x y=true then(zj st.1 (zbs st.1 P x y),st.2++zbs st.1 P x y) else st
def zau (P:Nat->Nat->zk) (W:Nat) (st:Rs × List UInt8):Nat->Rs × List UInt8
 |0=>st
 |i+1=>zgh P (zau P W st i) (i%W) (i/W)
def zab (s:Rs) (n:Int):List UInt8:=zcD s.pen (zaR s 0)++Zy n 83 84
def zgi (s:Rs) (n:Int):Rs × List UInt8:=if n=0 then(s,[]) else(zj s (zab s n),zab s n)
def ZT (s:Rs) (P:Nat->Nat->zk) (n:Int):List UInt8:=(zau P s.W (zgi s n) (s.H*s.W)).2
def zcz (s:Rs) (x:Nat) (y:Int):zk:=if inG s.W s.H x y=true then s.G x y.toNat else blk Pn.plain
def za0 (p:Nat->Bool):Nat->Nat
 |0=>0
 |i+1=>za0 p i+(if p i=true then 1 else 0)
def ZA (s:Rs) (P:Nat->Nat->zk) (n:Int):Nat:=za0 (λi=>!(zcz s (i%s.W) ((i/s.W:Nat)+n)).eqB (P (i%s.W) (i/s.W))) (s.H*s.W)
def zbl (s:Rs) (P:Nat->Nat->zk) (st:Int × Nat) (n:Int):Int × Nat:=if ZA s P n<st.2 then(n,ZA s P n) else st
def zaw (s:Rs) (P:Nat->Nat->zk):Nat->Int × Nat
 |0=>(0,ZA s P 0)
 |l+1=>zbl s P (zbl s P (zaw s P l) ((l+1:Nat):Int)) (-((l+1:Nat):Int))
def zdu (s:Rs) (P:Nat->Nat->zk):List UInt8:=
 if (zaw s P s.H).1≠0/\(ZT s P (zaw s P s.H).1).length<(ZT s P 0).length then ZT s P (zaw s P s.H).1 else ZT s P 0
section
variable {s:Rs} {P:Nat->Nat->zk}
theorem zqC (W x y:Nat):zaI P W x y<=W-x:=zmv _ _ _
theorem zfQ {W x y j:Nat} (h1:x<=j) (h2:j<x+zaI P W x y):P j y=P x y:=zk.eqB_iff.1 (zsF _ _ _ _ h1 h2)
theorem zoG {W x y:Nat} (h:x<W):1<=zaI P W x y:=by
 unfold zaI;obtain⟨m,e⟩:∃m,W-x=m+1:=⟨W-x-1,by omega⟩;rw[e];unfold zci;rw[if_pos (zk.eqB_iff.2 rfl)];omega
theorem zqD {W H y:Nat} {c:zk} (h:zdt P W H y c=true) {a b:Nat} (h1:y<=b) (h2:b<H) (ha:a<W):P a b=c:=by
 simp only[zdt,List.all_eq_true,List.mem_range,Bool.and_eq_true,decide_eq_true_eq] at h;obtain⟨e1,e2⟩:=h (b-y) (by omega);have eb:y+(b-y)=b:=by omega
 rw[eb] at e1 e2;rw[zfQ (P:=P) (W:=W) (x:=0) (y:=b) (j:=a) (by omega) (by omega)];exact zk.eqB_iff.1 e1
theorem zd7 (p:Nat->Bool) (n:Nat):za0 p n<=n:=by
 induction n with
 |zero=>exact Nat.le_refl 0
 |succ n ih=>unfold za0;split<;>omega
theorem znv (l:Nat):(zaw s P l).2=ZA s P (zaw s P l).1/\(-(l:Int)<=(zaw s P l).1/\(zaw s P l).1<=l)/\(∀n:Int,-(l:Int)<=n->n<=l->(zaw s P l).2<=ZA s P n):=by
 have hs:∀(st:Int × Nat) (n:Int),st.2=ZA s P st.1->(zbl s P st n).2=ZA s P (zbl s P st n).1/\((zbl s P st n).1=st.1\/(zbl s P st n).1=n)/\(zbl s P st n).2<=st.2/\(zbl s P st n).2<=ZA s P n:=by
  intro st n h;unfold zbl;split
  ·exact⟨rfl,.inr rfl,by simp only;omega,Nat.le_refl _⟩
  ·exact⟨h,.inl rfl,Nat.le_refl _,by omega⟩
 induction l with
 |zero=>
  refine⟨rfl,⟨by show -((0:Nat):Int)<=0;omega,by show(0:Int)<=((0:Nat):Int);omega⟩,λn h1 h2=>?_⟩;obtain rfl:n=0:=by omega
  exact Nat.le_refl _
 |succ l ih=>
  obtain⟨i1,⟨i2,i3⟩,i4⟩:=ih;obtain⟨a1,a2,a3,a4⟩:=hs _ ((l+1:Nat):Int) i1;obtain⟨b1,b2,b3,b4⟩:=hs _ (-((l+1:Nat):Int)) a1;show(zbl s P (zbl s P (zaw s P l) ((l+1:Nat):Int)) (-((l+1:Nat):Int))).2=_/\_;refine⟨b1,?_,?_⟩
  ·show -((l+1:Nat):Int)<=(zbl s P (zbl s P (zaw s P l) ((l+1:Nat):Int)) (-((l+1:Nat):Int))).1/\(zbl s P (zbl s P (zaw s P l) ((l+1:Nat):Int)) (-((l+1:Nat):Int))).1<=((l+1:Nat):Int);rcases b2 with e|e
   ·rw[e];rcases a2 with e'|e'
    ·rw[e'];omega
    ·rw[e'];omega
   ·rw[e];omega
  ·intro n h1 h2;show(zbl s P (zbl s P (zaw s P l) ((l+1:Nat):Int)) (-((l+1:Nat):Int))).2<=_;by_cases e1:n=((l+1:Nat):Int)
   ·rw[e1];omega
   ·by_cases e2:n = -((l+1:Nat):Int)
    ·rw[e2];omega
    ·have:=i4 n (by omega) (by omega);omega
theorem zoH (h:ZA s P 0=0) (l:Nat):zaw s P l=(0,0):=by
 induction l with
 |zero=>unfold zaw;rw[h]
 |succ l ih=>
  unfold zaw;rw[ih];have:∀n,zbl s P (0,0) n=(0,0):=λn=>by unfold zbl;rw[if_neg (by simp)]
  rw[this,this]
end
theorem zfp (l:List UInt8):∀ {s:Rs},s.Ok->(zj s l).Ok:=by
 induction l with
 |nil=>intro s h;exact h
 |cons c r ih=>intro s h;exact ih (h.one c)
theorem zuo {s:Rs} (h:s.Fl) {f:Sp} (hin:inG s.W s.H f.lx f.ly=true) {r:Int} (hr:wd r=1\/(wd r=2/\f.lx+1<s.W)):
 ∃q:Sp,q.pen=f.pen/\zba (s.on f) r={s.on q with G:=zR s.W s.H s.G f.lx f.ly r f.pen}:=by
 have ok:=h.ok;obtain⟨a0,a1,b0,b1⟩:=zu.1 hin;have w1:=ok.w1;have hb:∀k,(k=1\/(k=2/\f.lx+1<s.W))->zaa (s.on f) k=s.on ⟨f.lx,f.ly,false,f.pen⟩:=by
  intro k hk;unfold zaa zb8;cases hpd:f.pend with
  |true=>
   have e1:f.lx=0:=by simp[Sp.lx,hpd]
   have e2:f.ly=f.y+1:=by simp[Sp.ly,hpd]
   rw[if_pos (by show(f.pend||_)=true;rw[hpd];rfl)];unfold zt;rw[if_neg (by show¬f.y=s.bot;rw[h.bot];omega)];show ZQ _ (0:Int) (f.y+1)=_;rw[zco (by omega) (by show(0:Int)<s.W;omega) (by omega) (by show f.y+1<(s.H:Int);omega)];rw[e1,e2];rfl
  |false=>
   have e1:f.lx=f.x:=by simp[Sp.lx,hpd]
   have e2:f.ly=f.y:=by simp[Sp.ly,hpd]
   rw[if_neg]
   ·rw[e1,e2,←hpd]
   ·show¬(f.pend||(decide (k=2)&&decide (f.x=(s.W:Int)-1)))=true;rw[hpd];simp;omega
 have hst:∀(k:Int) (G:Nat->Nat->zk),∃q:Sp,q.pen=f.pen/\zcr {s.on ⟨f.lx,f.ly,false,f.pen⟩ with G:=G} k={s.on q with G:=G}:=by
  intro k G;unfold zcr;split
  ·exact⟨⟨(s.W:Int)-1,f.ly,true,f.pen⟩,rfl,rfl⟩
  ·exact⟨⟨f.lx+k,f.ly,false,f.pen⟩,rfl,rfl⟩
 have ew:ze1 (s.on f).W r=wd r:=by
  unfold ze1;rcases hr with e|⟨e,e'⟩
  ·rw[if_neg (by rw[e];omega)]
  ·rw[if_neg (by rintro⟨_,q⟩;have:s.W=1:=q;omega)]
 have er:zeq (s.on f).W r=r:=by
  unfold zeq;rcases hr with e|⟨e,e'⟩
  ·rw[if_neg (by rw[e];omega)]
  ·rw[if_neg (by rintro⟨_,q⟩;have:s.W=1:=q;omega)]
 unfold zba;rw[if_neg (by omega),ew,er,hb _ hr];obtain⟨q,h1,h2⟩:=hst (wd r) (zR s.W s.H s.G f.lx f.ly r f.pen);exact⟨q,h1,h2⟩
structure zjY (s:Rs) (P:Nat->Nat->zk) (G:Nat->Nat->zk) (x y:Nat):Prop where
 it:G x y=P x y
 keep:∀a b,a<s.W->b<s.H->s.G a b=P a b->G a b=P a b
section
variable {s:Rs} {P:Nat->Nat->zk} {x y:Nat}
theorem zsG (h:s.Fl) (hP:Wf s.W s.H P) (hx:x<s.W) (hy:y<s.H) (hb:∀a b,a<s.W->b<s.H->b*s.W+a<y*s.W+x->s.G a b=P a b) (hd:s.G x y≠P x y):(P x y).p≠2:=by
 intro e;obtain⟨h1,h2⟩:=hP.tail x y hx hy e;have h3:=hb (x-1) y (by omega) hy (by omega);have h4:=(h.ok.wf.head (x-1) y (by omega) hy (by rw[h3,h2])).2;rw[h3,h2] at h4;have ex:x-1+1=x:=by omega
 rw[ex] at h4;exact hd (by rw[h4];show(⟨(P x y).r,2,(P x y).n⟩:zk)=P x y;rw[←e])
theorem znw (hP:Wf s.W s.H P) (hx:x<s.W) (hy:y<s.H) (hnt:(P x y).p≠2) {a:Nat} (ha:a+1=x):(P a y).p≠1:=by
 intro e;have:=(hP.head a y (by omega) hy e).2;rw[ha] at this;exact hnt (by rw[this])
theorem zqE (h:s.Fl) (hP:Wf s.W s.H P) (hx:x<s.W) (hy:y<s.H) (hnt:(P x y).p=0) (hw:wd (P x y).r=1):zjY s P (zR s.W s.H s.G x y (P x y).r (P x y).n) x y:=by
 have e:=zdT h.ok.wf hx hy (P x y).r (P x y).n hw;have ec:(⟨(P x y).r,0,(P x y).n⟩:zk)=P x y:=by rw[←hnt]
 refine⟨?_,λa b ha hb hk=>?_⟩
 ·rw[e x y hx hy];unfold wrt;rw[if_pos (zcR.2 ⟨rfl,rfl⟩),ec]
 ·rw[e a b ha hb];unfold wrt;by_cases hp:pt x y a b=true
  ·obtain⟨rfl,rfl⟩:=zcR.1 hp;rw[if_pos hp,ec]
  ·rw[if_neg hp,if_neg]
   ·exact hk
   ·rintro(⟨q1,q2⟩|⟨q1,q2,q3⟩)
    ·obtain⟨e1,rfl⟩:=zcR.1 q2;rw[hk] at q1;exact znw hP hx hy (by rw[hnt];decide) e1 q1
    ·obtain⟨e1,rfl⟩:=zcR.1 q3;rw[hk] at q1;have:=(hP.tail a b ha hb q1).2;rw[e1] at this;rw[this] at hnt;exact absurd (show(1:Int)=0 from hnt) (by decide)
theorem zqF (h:s.Fl) (hP:Wf s.W s.H P) (hx:x<s.W) (hy:y<s.H) (hnt:(P x y).p=1) (hw:wd (P x y).r=2):zjY s P (zR s.W s.H s.G x y (P x y).r (P x y).n) x y:=by
 obtain⟨hx1,ht⟩:=hP.head x y hx hy hnt;have e:=zcS h.ok.wf hx1 hy (P x y).r (P x y).n hw;have ec:(⟨(P x y).r,1,(P x y).n⟩:zk)=P x y:=by rw[←hnt]
 have hpt:∀ {a b:Nat},pt2 x y a b=true↔(a=x\/a=x+1)/\b=y:=by
  intro a b;simp only[pt2,Bool.or_eq_true,zcR];constructor
  ·rintro(⟨a,b⟩|⟨a,b⟩)
   ·exact⟨.inl a,b⟩
   ·exact⟨.inr a,b⟩
  ·rintro⟨a|a,b⟩
   ·exact .inl ⟨a,b⟩
   ·exact .inr ⟨a,b⟩
 have hv:∀a b,(a=x\/a=x+1)/\b=y->wide x (P x y).r (P x y).n a b=P a b:=by
  rintro a b ⟨rfl|rfl,rfl⟩
  ·unfold wide;rw[if_pos rfl,ec]
  ·unfold wide;rw[if_neg (by omega),ht]
 refine⟨?_,λa b ha hb hk=>?_⟩
 ·rw[e x y hx hy];unfold wrt;rw[if_pos (hpt.2 ⟨.inl rfl,rfl⟩),hv x y ⟨.inl rfl,rfl⟩]
 ·rw[e a b ha hb];unfold wrt;by_cases hp:pt2 x y a b=true
  ·rw[if_pos hp,hv a b (hpt.1 hp)]
  ·rw[if_neg hp,if_neg]
   ·exact hk
   ·rintro(⟨q1,q2⟩|⟨q1,q2,q3⟩)
    ·obtain⟨e1,rfl⟩:=hpt.1 q2;rw[hk] at q1;rcases e1 with e1|e1
     ·exact znw hP hx hy (by rw[hnt];decide) e1 q1
     ·exact hp (hpt.2 ⟨.inl (by omega),rfl⟩)
    ·obtain⟨e1,rfl⟩:=hpt.1 q3;rw[hk] at q1;have:=(hP.tail a b ha hb q1).2;rcases e1 with e1|e1
     ·exact hp (hpt.2 ⟨.inr (by omega),rfl⟩)
     ·rw[e1,ht] at this;have:=congrArg zk.p this;exact absurd (show(2:Int)=1 from this) (by decide)
theorem zqG (hP:Wf s.W s.H P) (hx:x<s.W) (hy:y<s.H) {S:Nat->Nat->Bool} {c:zk} (hc:c.p=0) (hS:∀a b,a<s.W->b<s.H->S a b=true->P a b=c) (hi:S x y=true):zjY s P (wrt s.G S (λ_ _=>c)) x y:=by
 refine⟨?_,λa b ha hb hk=>?_⟩
 ·unfold wrt;rw[if_pos hi,hS x y hx hy hi]
 ·unfold wrt;by_cases hp:S a b=true
  ·rw[if_pos hp,hS a b ha hb hp]
  ·rw[if_neg hp,if_neg]
   ·exact hk
   ·rintro(⟨q1,q2⟩|⟨q1,q2,q3⟩)
    ·rw[hk] at q1;obtain⟨e1,e2⟩:=hP.head a b ha hb q1;have:=hS (a+1) b e1 hb q2;rw[e2] at this;rw[←this] at hc;exact absurd (show(2:Int)=0 from hc) (by decide)
    ·rw[hk] at q1;obtain⟨e1,e2⟩:=hP.tail a b ha hb q1;have:=hS (a-1) b (by omega) hb q3;rw[e2] at this;rw[←this] at hc;exact absurd (show(1:Int)=0 from hc) (by decide)
theorem zqH (h:s.Fl) (hx:x<s.W) (hy:y<s.H) {p:Sp} (hpx:p.x=x) (hpy:p.y=y) (hc:blk (zS (s.on p))=P x y):
 ∃S:Nat->Nat->Bool,zj (s.on p) (ze3 P s.W s.H x y).1={s.on p with G:=wrt s.G S (λ_ _=>P x y)}/\(∀a b,a<s.W->b<s.H->S a b=true->P a b=P x y)/\S x y=true/\(ze3 P s.W s.H x y).1.length<=5:=by
 have hB:(s.on p).B=⟨#[]⟩:=h.B;have hle:=zqC (P:=P) s.W x y;have hpos:=zoG (P:=P) (y:=y) hx;have w2:=h.ok.w2;unfold ze3;split
 ·rename_i hl;refine⟨rg x ((x:Int)+zaI P s.W x y) y,?_,?_,?_,?_⟩
  ·obtain⟨l,e,b⟩:=zbg hB 88 (by decide) (by decide) (ZD (n:=(zaI P s.W x y:Int)) (by omega) Z3) (by simp);rw[e];have g0:=zfM b;unfold zJ;simp only[g0];rw[zcn (by omega)];simp only[hc];have e1:(s.on p).x=(x:Int):=hpx;have e2:(s.on p).y.toNat=y:=by show p.y.toNat=y;omega
   rw[e1,e2];rfl
  ·intro a b ha hb hS;obtain⟨rfl,h1,h2⟩:=zjt.1 hS;exact zfQ (W:=s.W) (by omega) (by omega)
  ·exact zjt.2 ⟨rfl,by omega,by omega⟩
  ·have:=zdl 88 _ _ (ZD (n:=(zaI P s.W x y:Int)) (by omega) Z3);simpa using this
 ·rename_i hl;split
  ·rename_i ha;refine⟨zct 0 true x y,?_,?_,?_,by rw[zhO];omega⟩
   ·rw[ziY hB 74 (by decide) (by decide)];unfold zJ;simp[zbS,hc];have e1:(s.on p).x=(x:Int):=hpx;have e2:(s.on p).y=(y:Int):=hpy;rw[e1,e2];rfl
   ·intro a b ha' hb hS;simp[zct] at hS;rcases hS with q|⟨q,q'⟩
    ·exact zqD ha (by omega) hb ha'
    ·obtain rfl:b=y:=by omega
     exact zfQ (W:=s.W) (by omega) (by omega)
   ·simp[zct]
  ·refine⟨zct 0 false x y,?_,?_,?_,by rw[zhO];omega⟩
   ·rw[ziY hB 75 (by decide) (by decide)];unfold zJ;simp[zbS,hc];have e1:(s.on p).x=(x:Int):=hpx;have e2:(s.on p).y=(y:Int):=hpy;rw[e1,e2];rfl
   ·intro a b ha' hb hS;simp[zct] at hS;obtain⟨q,q'⟩:=hS;obtain rfl:b=y:=by omega
    exact zfQ (W:=s.W) (by omega) (by omega)
   ·simp[zct]
theorem zi3 (h:s.Fl) (hP:Wf s.W s.H P) (hN:∀a b,a<s.W->b<s.H->(P a b).n.Ok) (hx:x<s.W) (hy:y<s.H) (hb:∀a b,a<s.W->b<s.H->b*s.W+a<y*s.W+x->s.G a b=P a b) (hd:s.G x y≠P x y):
 (zj s (zbs s P x y)).Fl/\(zj s (zbs s P x y)).W=s.W/\(zj s (zbs s P x y)).H=s.H/\(zj s (zbs s P x y)).odd=s.odd/\zjY s P (zj s (zbs s P x y)).G x y/\(zbs s P x y).length<=33:=by
 have ok:=zfp (zbs s P x y) h.ok;have hn:=hN x y hx hy;have hnt:=zsG h hP hx hy hb hd;unfold zbs at *;by_cases he:zaQ s P x y=[]
 ·rw[if_pos he] at *;obtain⟨p,e1,hp,hat,hl⟩:=zdm (g:=⟨x,y,(P x y).n,true⟩) h ⟨by show(0:Int)<=x;omega,by show(x:Int)<s.W;omega,by show(0:Int)<=y;omega,by show(y:Int)<s.H;omega,hn⟩;have hat':p.lx=x/\p.ly=y/\p.pen=(P x y).n:=by
   simp[Gl.isAt] at hat;exact⟨hat.1.1,hat.1.2,Pn.eqB_iff.1 hat.2⟩
  obtain⟨l1,l2,l3⟩:=hat';have hwd:wd (P x y).r=1/\(P x y).p=0\/wd (P x y).r=2/\(P x y).p=1/\x+1<s.W:=by
   rcases hP.part x y hx hy with⟨a,b⟩|⟨a,b⟩|⟨a,b⟩
   ·exact .inl ⟨b,a⟩
   ·exact .inr ⟨b,a,(hP.head x y hx hy a).1⟩
   ·exact absurd a hnt
  obtain⟨q,q1,q2⟩:=zuo h (f:=p) (zu.2 (by omega)) (r:=(P x y).r) (by
   rcases hwd with⟨a,_⟩|⟨a,_,b⟩
   ·exact .inl a
   ·exact .inr ⟨a,by omega⟩)
  have hf:zj s (zb3 s ⟨x,y,(P x y).n,true⟩++zdd (P x y).r)={s.on q with G:=zR s.W s.H s.G x y (P x y).r (P x y).n}:=by
   rw[ZS,e1,zgI (s:=s.on p) h.B (by rcases hwd with⟨a,_⟩|⟨a,_⟩<;>omega),q2,l1,l2,l3]
  rw[hf] at ok ⊢;refine⟨⟨ok,h.B,h.top,h.bot,by show q.pen.Ok;rw[q1,l3];exact hn⟩,rfl,rfl,rfl,?_,?_⟩
  ·rcases hwd with⟨a,b⟩|⟨a,b,_⟩
   ·exact zqE h hP hx hy b a
   ·exact zqF h hP hx hy b a
  ·have:=znu (P x y).r;rw[List.length_append];omega
 ·rw[if_neg he] at *;have hn2:(zaR s (P x y).n.b).Ok:=⟨h.pen.1,h.pen.2.1,hn.2.2.1,hn.2.2.2⟩;obtain⟨p,e1,hp,hat,hl⟩:=zdm (g:=⟨x,y,zaR s (P x y).n.b,false⟩) h ⟨by show(0:Int)<=x;omega,by show(x:Int)<s.W;omega,by show(0:Int)<=y;omega,by show(y:Int)<s.H;omega,hn2⟩;have hat':p.pend=false/\p.x=x/\p.y=y/\p.pen=zaR s (P x y).n.b:=by
   cases hpd:p.pend with
   |true=>simp[Gl.isAt,hpd] at hat
   |false=>
    simp[Gl.isAt,hpd,Sp.lx,Sp.ly] at hat;exact⟨rfl,hat.1.1,hat.1.2,Pn.eqB_iff.1 hat.2⟩
  obtain⟨l0,l1,l2,l3⟩:=hat';have hbk:(P x y).eqB (zi2 (P x y))=true:=by
   cases hq:(P x y).eqB (zi2 (P x y)) with
   |true=>rfl
   |false=>exact absurd (by unfold zaQ;rw[if_pos hq]) he
  have hbe:=zk.eqB_iff.1 hbk;have her:zaQ s P x y=(ze3 P s.W s.H x y).1:=by
   unfold zaQ at he ⊢;rw[if_neg (by rw[hbk];simp)] at he ⊢;split at he
   ·rename_i q;rw[if_pos q]
   ·exact absurd rfl he
  have hbc:blk (zS (s.on p))=P x y:=by
   rw[hbe];show blk ⟨0,p.pen.b,false,false,false⟩=zi2 (P x y);rw[l3];rfl
  obtain⟨S,f1,f2,f3,f4⟩:=zqH h hx hy l1 l2 hbc;have hf:zj s (zb3 s ⟨x,y,zaR s (P x y).n.b,false⟩++zaQ s P x y)={s.on p with G:=wrt s.G S (λ_ _=>P x y)}:=by
   rw[ZS,e1,her,f1]
  rw[hf] at ok ⊢;refine⟨⟨ok,h.B,h.top,h.bot,by show p.pen.Ok;rw[l3];exact hn2⟩,rfl,rfl,rfl,?_,?_⟩
  ·exact zqG hP hx hy (by rw[hbe];rfl) f2 f3
  ·rw[List.length_append,her];omega
end
structure zeG (W H:Nat) (P:Nat->Nat->zk):Prop where
 wf:Wf W H P
 pen:∀a b,a<W->b<H->(P a b).n.Ok
structure zhb (s:Rs) (P:Nat->Nat->zk) (b0:List UInt8) (i:Nat) (st:Rs × List UInt8):Prop where
 fl:st.1.Fl
 W:st.1.W=s.W
 H:st.1.H=s.H
 odd:st.1.odd=s.odd
 done:∀a b,a<s.W->b<s.H->b*s.W+a<i->st.1.G a b=P a b
 keep:∀a b,a<s.W->b<s.H->s.G a b=P a b->st.1.G a b=P a b
 told:∃m,st.2=b0++m/\zj s m=st.1/\m.length<=33*za0 (λj=>ZL s P (j%s.W) (j/s.W)) i
section
variable {s:Rs} {P:Nat->Nat->zk}
theorem zeH {x y:Nat}:ZL s P x y=true↔s.G x y≠P x y:=by
 unfold ZL;rw[Bool.not_eq_true',zk.eqB_not]
theorem zgj (h:s.Fl) (hP:zeG s.W s.H P) (b0:List UInt8):∀i,i<=s.H*s.W->zhb s P b0 i (zau P s.W (s,b0) i):=by
 have w1:=h.ok.w1;intro i;induction i with
 |zero=>
  intro _;exact⟨h,rfl,rfl,rfl,λa b _ _ q=>absurd q (by omega),λ_ _ _ _ q=>q,[],by simp[zau],rfl,Nat.zero_le _⟩
 |succ i ih=>
  intro hi;have I:=ih (by omega);show zhb s P b0 (i+1) (zgh P (zau P s.W (s,b0) i) (i%s.W) (i/s.W));generalize zau P s.W (s,b0) i=st at I;have hx:i%s.W<s.W:=Nat.mod_lt _ (by omega);have hy:i/s.W<s.H:=Nat.div_lt_of_lt_mul (by rw[Nat.mul_comm];omega);have hxy:i/s.W*s.W+i%s.W=i:=by rw[Nat.mul_comm];exact Nat.div_add_mod i s.W
  have hcn:za0 (λj=>ZL s P (j%s.W) (j/s.W)) (i+1)=za0 (λj=>ZL s P (j%s.W) (j/s.W)) i+(if ZL s P (i%s.W) (i/s.W)=true then 1 else 0):=rfl;generalize i%s.W=x at *;generalize i/s.W=y at *;have hsplit:∀a b,a<s.W->b<s.H->b*s.W+a<i+1->b*s.W+a<i\/(a=x/\b=y):=by
   intro a b ha hb q;by_cases e:b*s.W+a=i
   ·exact .inr (zcb ha hx (by omega))
   ·exact .inl (by omega)
  obtain⟨m,m1,m2,m3⟩:=I.told;unfold zgh;cases hd:ZL st.1 P x y with
  |false=>
   rw[if_neg (by decide)];have he:st.1.G x y=P x y:=by
    have:=hd;unfold ZL at this;exact zk.eqB_iff.1 (by simpa using this)
   refine⟨I.fl,I.W,I.H,I.odd,λa b ha hb q=>?_,I.keep,m,m1,m2,by rw[hcn];split<;>omega⟩;rcases hsplit a b ha hb q with e|⟨rfl,rfl⟩
   ·exact I.done a b ha hb e
   ·exact he
  |true=>
   rw[if_pos rfl];have hd':=zeH.1 hd;have hds:=zeH.2 (λq=>hd' (I.keep x y hx hy q));obtain⟨a1,a2,a3,a4,a5,a6⟩:=zi3 (s:=st.1) (P:=P) (x:=x) (y:=y) I.fl (by rw[I.W,I.H];exact hP.wf) (by rw[I.W,I.H];exact hP.pen) (by rw[I.W];exact hx) (by rw[I.H];exact hy) (by rw[I.W,I.H];intro a b ha hb q;exact I.done a b ha hb (by omega)) hd';have kp:=λa b ha hb q=>a5.keep a b (by rw[I.W];exact ha) (by rw[I.H];exact hb) q;refine⟨a1,a2.trans I.W,a3.trans I.H,a4.trans I.odd,λa b ha hb q=>?_,λa b ha hb q=>kp a b ha hb (I.keep a b ha hb q),m++zbs st.1 P x y,by rw[m1];simp,by rw[ZS,m2],?_⟩
   ·rcases hsplit a b ha hb q with e|⟨rfl,rfl⟩
    ·exact kp a b ha hb (I.done a b ha hb e)
    ·exact a5.it
   ·rw[hcn,if_pos hds,List.length_append];omega
theorem zi4 {p q:Nat->Bool} {n:Nat} (h:∀i,i<n->p i=q i):za0 p n=za0 q n:=by
 induction n with
 |zero=>rfl
 |succ n ih=>
  unfold za0;rw[ih (λi hi=>h i (by omega)),h n (by omega)]
theorem zeI (h:s.Fl) {n:Int} (h0:n≠0) (h1:-100<n) (h2:n<100):zj s (zab s n)={s with pen:=zaR s 0,G:=zo s.top s.bot n Pn.plain s.G}:=by
 unfold zab;have hp:(zaR s 0).Ok:=⟨h.pen.1,h.pen.2.1,Int.le_refl 0,by show(0:Int)<=8;omega⟩;rw[ZS,zfO h.B hp,zkX (s:={s with pen:=zaR s 0}) h.B h0 h1 h2];rfl
theorem zgL (h:s.Fl) {n:Int} (h0:n≠0) (h1:-100<n) (h2:n<100):(zj s (zab s n)).Fl:=by
 have ok:=zfp (zab s n) h.ok;rw[zeI h h0 h1 h2] at ok ⊢;exact⟨ok,h.B,h.top,h.bot,⟨h.pen.1,h.pen.2.1,Int.le_refl 0,by show(0:Int)<=8;omega⟩⟩
theorem zfq (h:s.Fl) {n:Int} (h1:-100<n) (h2:n<100):(zab s n).length<=10:=by
 unfold zab;have a:=zoA s.pen (v:=0) (by omega) (by omega);have b:=zgb h1 h2 83 84;have a':(zcD s.pen (zaR s 0)).length<=5:=a;have:=h.B;rw[List.length_append];omega
theorem zgM (h:s.Fl):ZA s P 0=za0 (λj=>ZL s P (j%s.W) (j/s.W)) (s.H*s.W):=by
 have w1:=h.ok.w1;refine zi4 (λi hi=>?_);have hx:i%s.W<s.W:=Nat.mod_lt _ (by omega);have hy:=Nat.div_lt_of_lt_mul (by rw[Nat.mul_comm];omega);show(!(zcz s (i%s.W) ((i/s.W:Nat)+0)).eqB _)=_;generalize i/s.W=y at *;generalize i%s.W=x at *;unfold zcz;rw[if_pos (zu.2 (by omega))];unfold ZL;have:((y:Int)+0).toNat=y:=by omega
 rw[this]
theorem ziy (h:s.Fl) {n:Int} (h0:n≠0) (h1:-100<n) (h2:n<100):ZA s P n=za0 (λj=>ZL (zj s (zab s n)) P (j%s.W) (j/s.W)) (s.H*s.W):=by
 have w1:=h.ok.w1;rw[zeI h h0 h1 h2];refine zi4 (λi hi=>?_);have hx:i%s.W<s.W:=Nat.mod_lt _ (by omega);have hy:=Nat.div_lt_of_lt_mul (by rw[Nat.mul_comm];omega);show(!(zcz s (i%s.W) ((i/s.W:Nat)+n)).eqB _)=(!(zo s.top s.bot n Pn.plain s.G (i%s.W) (i/s.W)).eqB _);generalize i/s.W=y at *;generalize i%s.W=x at *;congr 2;unfold zcz zo;rw[h.top,h.bot,if_pos (show(0:Int)<=(y:Int)/\(y:Int)<=(s.H:Int)-1 by omega)];by_cases hc:(0:Int)<=(y:Int)+n/\(y:Int)+n<=(s.H:Int)-1
 ·rw[if_pos hc,if_pos (zu.2 (by omega))]
 ·rw[if_neg hc,if_neg (λq=>hc (by have:=zu.1 q;omega))]
structure zi5 (s:Rs) (P:Nat->Nat->zk) (b:List UInt8):Prop where
 fl:(zj s b).Fl
 W:(zj s b).W=s.W
 H:(zj s b).H=s.H
 odd:(zj s b).odd=s.odd
 eq:ZX s.W s.H (zj s b).G P
theorem zhU (h:s.Fl) (hP:zeG s.W s.H P) {n:Int} (h1:-20<=n) (h2:n<=20):zi5 s P (ZT s P n)/\(ZT s P n).length<=(if n=0 then 0 else 10)+33*ZA s P n:=by
 unfold ZT zgi;by_cases h0:n=0
 ·subst h0;rw[if_pos rfl,if_pos rfl,zgM h];have I:=zgj h hP [] (s.H*s.W) (Nat.le_refl _);generalize zau P s.W (s,[]) (s.H*s.W)=st at I;obtain⟨m,m1,m2,m3⟩:=I.told;rw[List.nil_append] at m1;rw[m1];refine⟨⟨by rw[m2];exact I.fl,by rw[m2];exact I.W,by rw[m2];exact I.H,by rw[m2];exact I.odd,λa b ha hb=>?_⟩,by omega⟩;rw[m2];exact I.done a b ha hb (zas ha hb)
 ·rw[if_neg h0,if_neg h0,ziy h h0 (by omega) (by omega)];have hs:=zeI h h0 (n:=n) (by omega) (by omega);have hfl:=zgL h h0 (n:=n) (by omega) (by omega);have hl:=zfq h (n:=n) (by omega) (by omega);have eW:(zj s (zab s n)).W=s.W:=by rw[hs]
  have eH:(zj s (zab s n)).H=s.H:=by rw[hs]
  have eo:(zj s (zab s n)).odd=s.odd:=by rw[hs]
  have I:=zgj hfl (P:=P) (by rw[eW,eH];exact hP) (zab s n) (s.H*s.W) (by rw[eW,eH];exact Nat.le_refl _);rw[eW] at I;generalize zau P s.W (zj s (zab s n),zab s n) (s.H*s.W)=st at I;obtain⟨m,m1,m2,m3⟩:=I.told;rw[eW] at m3;have mf:zj s st.2=st.1:=by rw[m1,ZS,m2]
  refine⟨⟨by rw[mf];exact I.fl,by rw[mf];exact I.W.trans eW,by rw[mf];exact I.H.trans eH,by rw[mf];exact I.odd.trans eo,λa b ha hb=>?_⟩,?_⟩
  ·rw[mf];exact I.done a b (by rw[eW];exact ha) (by rw[eH];exact hb) (by rw[eW];exact zas ha hb)
  ·rw[m1,List.length_append];omega
structure zwK (s:Rs) (P:Nat->Nat->zk) (b:List UInt8):Prop where
 re:zi5 s P b
 few:b.length<=64*ZA s P 0+16
 none:ZA s P 0=0->b=[]
 moved:∀n:Int,-(s.H:Int)<=n->n<=s.H->b.length<=64*ZA s P n+24
theorem zk6 (h:s.Fl) (hP:zeG s.W s.H P):zwK s P (zdu s P):=by
 have h2:=h.ok.h2;obtain⟨n1,⟨n2,n3⟩,n4⟩:=znv (s:=s) (P:=P) s.H;obtain⟨r1,r2⟩:=zhU h hP (n:=0) (by omega) (by omega);rw[if_pos rfl] at r2;obtain⟨q1,q2⟩:=zhU h hP (n:=(zaw s P s.H).1) (by omega) (by omega);rw[←n1] at q2;unfold zdu;by_cases hc:(zaw s P s.H).1≠0/\(ZT s P (zaw s P s.H).1).length<(ZT s P 0).length
 ·rw[if_pos hc];rw[if_neg hc.1] at q2;refine⟨q1,by omega,λe=>?_,λn a b=>?_⟩
  ·exact absurd (by rw[zoH e]) hc.1
  ·have:=n4 n a b;omega
 ·rw[if_neg hc];refine⟨r1,by omega,λe=>?_,λn a b=>?_⟩
  ·exact List.eq_nil_of_length_eq_zero (by omega)
  ·have:=n4 n a b;by_cases e0:(zaw s P s.H).1=0
   ·rw[e0] at n1;omega
   ·rw[if_neg e0] at q2;have:¬(ZT s P (zaw s P s.H).1).length<(ZT s P 0).length:=λq=>hc ⟨e0,q⟩;omega
end
end
end Go.Proofs.YtjlfibhbfdckpaaGreatDoor
