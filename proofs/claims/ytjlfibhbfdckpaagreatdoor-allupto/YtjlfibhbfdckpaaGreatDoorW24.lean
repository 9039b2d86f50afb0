import Derived.Test.YtjlfibhbfdckpaaGreatDoorW23
namespace Go.Proofs.YtjlfibhbfdckpaaGreatDoor
set_option maxHeartbeats 64000000
set_option maxRecDepth 100000
section
open Wd (wd)
def zdd (r:Int):List UInt8:=(Utf8.encode r).data.toList
theorem zqu {r:Int} (h:wd r≠0):Wd.validB r=true/\32<=r/\Wd.inB r 127 159=false:=by
 unfold wd at h;by_cases z:Wd.zeroB r=true
 ·rw[if_pos z] at h;exact absurd rfl h
 ·simp only[Wd.zeroB,Bool.or_eq_true,Bool.not_eq_true',decide_eq_true_eq,not_or,Bool.not_eq_false,Bool.not_eq_true] at z;obtain⟨⟨⟨⟨a,b⟩,c⟩,_⟩,_⟩:=z;exact⟨a,by omega,c⟩
theorem zul {r:Int} (h:Wd.validB r=true):Utf8.valid r=true/\0<=r:=by
 simp only[Wd.validB,Wd.inB,Bool.or_eq_true,Bool.and_eq_true,decide_eq_true_eq] at h;refine⟨?_,by omega⟩;simp only[Utf8.valid,Bool.or_eq_true,Bool.and_eq_true,decide_eq_true_eq];omega
def zjU (c:Nat):List UInt8:=
 if c<128 then[UInt8.ofNat c] else if c<2048 then[UInt8.ofNat (192+c/64),UInt8.ofNat (128+c%64)]
 else if c<65536 then[UInt8.ofNat (224+c/4096),UInt8.ofNat (128+c/64%64),UInt8.ofNat (128+c%64)]
 else[UInt8.ofNat (240+c/262144),UInt8.ofNat (128+c/4096%64),UInt8.ofNat (128+c/64%64),UInt8.ofNat (128+c%64)]
def zsv (c:Nat):ByteArray:=
 if c<128 then⟨#[UInt8.ofNat c]⟩ else if c<2048 then⟨#[UInt8.ofNat (192+c/64),UInt8.ofNat (128+c%64)]⟩
 else if c<65536 then⟨#[UInt8.ofNat (224+c/4096),UInt8.ofNat (128+c/64%64),UInt8.ofNat (128+c%64)]⟩
 else⟨#[UInt8.ofNat (240+c/262144),UInt8.ofNat (128+c/4096%64),UInt8.ofNat (128+c/64%64),UInt8.ofNat (128+c%64)]⟩
theorem zoB (c:Nat):(zsv c).data.toList=zjU c:=by
 unfold zsv zjU;split
 ·rfl
 ·split
  ·rfl
  ·split<;>rfl
theorem zsw (r:Int):Utf8.encode r=zsv (if Utf8.valid r=true then r.toNat else Utf8.runeError):=rfl
theorem zsx {b:Bool} (hb:b=true) (x y z:Nat) (h:x=z):(zsv (if b=true then x else y)).data.toList=zjU z:=by
 rw[if_pos hb,zoB,h]
theorem zsy {r:Int} {c:Nat} (hv:Utf8.valid r=true) (h:r.toNat=c):zdd r=zjU c:=by
 unfold zdd;rw[zsw];exact zsx hv _ _ _ h
theorem zha {c:Nat} (hv:Utf8.valid c=true):zdd c=zjU c:=zsy hv (Int.toNat_natCast c)
theorem zwG {c:Nat} (hv:Utf8.valid c=true) (h:c<128):zdd c=[UInt8.ofNat c]:=by
 rw[zha hv];unfold zjU;rw[if_pos h]
theorem zwH {c:Nat} (hv:Utf8.valid c=true) (h0:¬c<128) (h:c<2048):zdd c=[UInt8.ofNat (192+c/64),UInt8.ofNat (128+c%64)]:=by
 rw[zha hv];unfold zjU;rw[if_neg h0,if_pos h]
theorem zwI {c:Nat} (hv:Utf8.valid c=true) (h0:¬c<128) (h1:¬c<2048) (h:c<65536):zdd c=[UInt8.ofNat (224+c/4096),UInt8.ofNat (128+c/64%64),UInt8.ofNat (128+c%64)]:=by
 rw[zha hv];unfold zjU;rw[if_neg h0,if_neg h1,if_pos h]
theorem zwJ {c:Nat} (hv:Utf8.valid c=true) (h0:¬c<128) (h1:¬c<2048) (h:¬c<65536):zdd c=[UInt8.ofNat (240+c/262144),UInt8.ofNat (128+c/4096%64),UInt8.ofNat (128+c/64%64),UInt8.ofNat (128+c%64)]:=by
 rw[zha hv];unfold zjU;rw[if_neg h0,if_neg h1,if_neg h]
theorem zeD {s:Rs} (hB:s.B=⟨#[]⟩) (a:UInt8) (h:0<zQ a.toNat):za3 s a={s with B:=⟨#[a]⟩}:=by
 have ha:194<=a.toNat:=by
  rcases Zk a.toNat with q|q|q|q
  ·omega
  ·omega
  ·omega
  ·omega
 unfold za3;rw[hB];show zw s a=_;unfold zw;rw[if_neg (by omega),if_neg (by omega),if_neg (by omega),if_neg (by omega),if_neg (by omega),if_pos h]
theorem zge {s:Rs} {a:UInt8} {l:List UInt8} (hB:s.B=⟨(a::l).toArray⟩) (ha:a≠27) (c:UInt8):za3 s c=zbc s a l c:=by
 unfold za3;rw[hB];show(if a=27 then _ else zbc s a l c)=_;rw[if_neg ha]
theorem zgI {s:Rs} (hB:s.B=⟨#[]⟩) {r:Int} (h:wd r≠0):zj s (zdd r)=zba s r:=by
 obtain⟨hv,h32,hc1⟩:=zqu h;obtain⟨hv',h0⟩:=zul hv;simp only[Wd.inB,Bool.and_eq_false_iff,decide_eq_false_iff_not] at hc1;simp only[Wd.validB,Wd.inB,Bool.or_eq_true,Bool.and_eq_true,decide_eq_true_eq] at hv;obtain⟨c,rfl⟩:=Int.eq_ofNat_of_zero_le h0;have hE:=ziX hB;by_cases c1:c<128
 ·rw[zwG hv' c1,zeB];unfold za3;rw[hB];show zw s _=_;unfold zw;rw[u8n (by omega),if_neg (by omega),if_neg (by omega),if_neg (by omega),if_neg (by omega),if_pos (by omega)]
 ·by_cases c2:c<2048
  ·rw[zwH hv' c1 c2];have ea:(UInt8.ofNat (192+c/64)).toNat=192+c/64:=u8n (by omega);have eb:(UInt8.ofNat (128+c%64)).toNat=128+c%64:=u8n (by omega);generalize UInt8.ofNat (192+c/64)=a at *;generalize UInt8.ofNat (128+c%64)=b at *;have l2:zQ (a.toNat:Int)=2:=by unfold zQ;rw[if_pos (by omega)]
   have hne:a≠27:=λq=>by rw[q] at ea;revert ea;show(27:Nat)=_->False;omega
   show za3 (za3 s a) b=_;rw[zeD hB a (by omega),zge (s:={s with B:=⟨#[a]⟩}) (l:=[]) rfl hne b];unfold zbc;have g:zq [a] (b.toNat:Int)=true:=by
    unfold zq zbb Z6;simp only[Bool.and_eq_true,decide_eq_true_eq];rw[if_neg (by omega),if_neg (by omega),if_neg (by omega),if_neg (by omega)];omega
   rw[if_neg (by rw[g];simp),if_pos (by rw[l2];rfl)];show zba {s with B:=⟨#[]⟩} (Zn [a,b])=_;rw[hE];have el:Zn [a,b]=(c:Int):=by
    show 64*((a.toNat:Int)-192)+b.toNat-128=(c:Int);omega
   rw[el]
  ·by_cases c3:c<65536
   ·rw[zwI hv' c1 c2 c3];have ea:(UInt8.ofNat (224+c/4096)).toNat=224+c/4096:=u8n (by omega);have eb:(UInt8.ofNat (128+c/64%64)).toNat=128+c/64%64:=u8n (by omega);have ed:(UInt8.ofNat (128+c%64)).toNat=128+c%64:=u8n (by omega);generalize UInt8.ofNat (224+c/4096)=a at *;generalize UInt8.ofNat (128+c/64%64)=b at *;generalize UInt8.ofNat (128+c%64)=d at *;have l2:zQ (a.toNat:Int)=3:=by unfold zQ;rw[if_neg (by omega),if_pos (by omega)]
    have hne:a≠27:=λq=>by rw[q] at ea;revert ea;show(27:Nat)=_->False;omega
    show za3 (za3 (za3 s a) b) d=_;rw[zeD hB a (by omega),zge (s:={s with B:=⟨#[a]⟩}) (l:=[]) rfl hne b];have g:zq [a] (b.toNat:Int)=true:=by
     unfold zq zbb Z6;simp only[Bool.and_eq_true,decide_eq_true_eq];constructor
     ·split
      ·omega
      ·rw[if_neg (by omega)];omega
     ·split
      ·omega
      ·rw[if_neg (by omega)];omega
    have e1:zbc {s with B:=⟨#[a]⟩} a [] b={s with B:=⟨#[a,b]⟩}:=by
     unfold zbc;rw[if_neg (by rw[g];simp),if_neg (by rw[l2];simp)];rfl
    rw[e1,zge (s:={s with B:=⟨#[a,b]⟩}) (l:=[b]) rfl hne d];have g2:zq [a,b] (d.toNat:Int)=true:=by
     show(decide (128<=(d.toNat:Int))&&decide ((d.toNat:Int)<=191))=true;simp;omega
    unfold zbc;rw[if_neg (by rw[g2];simp),if_pos (by rw[l2];rfl)];show zba {s with B:=⟨#[]⟩} (Zn [a,b,d])=_;rw[hE];have el:Zn [a,b,d]=(c:Int):=by
     show 64*(64*((a.toNat:Int)-224)+b.toNat-128)+d.toNat-128=(c:Int);omega
    rw[el]
   ·rw[zwJ hv' c1 c2 c3];have ea:(UInt8.ofNat (240+c/262144)).toNat=240+c/262144:=u8n (by omega);have eb:(UInt8.ofNat (128+c/4096%64)).toNat=128+c/4096%64:=u8n (by omega);have ed:(UInt8.ofNat (128+c/64%64)).toNat=128+c/64%64:=u8n (by omega);have ef:(UInt8.ofNat (128+c%64)).toNat=128+c%64:=u8n (by omega);generalize UInt8.ofNat (240+c/262144)=a at *;generalize UInt8.ofNat (128+c/4096%64)=b at *;generalize UInt8.ofNat (128+c/64%64)=d at *;generalize UInt8.ofNat (128+c%64)=f at *;have l2:zQ (a.toNat:Int)=4:=by unfold zQ;rw[if_neg (by omega),if_neg (by omega),if_pos (by omega)]
    have hne:a≠27:=λq=>by rw[q] at ea;revert ea;show(27:Nat)=_->False;omega
    show za3 (za3 (za3 (za3 s a) b) d) f=_;rw[zeD hB a (by omega),zge (s:={s with B:=⟨#[a]⟩}) (l:=[]) rfl hne b];have g:zq [a] (b.toNat:Int)=true:=by
     unfold zq zbb Z6;simp only[Bool.and_eq_true,decide_eq_true_eq];constructor
     ·rw[if_neg (by omega)];split
      ·omega
      ·omega
     ·rw[if_neg (by omega)];split
      ·omega
      ·omega
    have e1:zbc {s with B:=⟨#[a]⟩} a [] b={s with B:=⟨#[a,b]⟩}:=by
     unfold zbc;rw[if_neg (by rw[g];simp),if_neg (by rw[l2];simp)];rfl
    rw[e1,zge (s:={s with B:=⟨#[a,b]⟩}) (l:=[b]) rfl hne d];have g2:zq [a,b] (d.toNat:Int)=true:=by
     show(decide (128<=(d.toNat:Int))&&decide ((d.toNat:Int)<=191))=true;simp;omega
    have e2:zbc {s with B:=⟨#[a,b]⟩} a [b] d={s with B:=⟨#[a,b,d]⟩}:=by
     unfold zbc;rw[if_neg (by rw[g2];simp),if_neg (by rw[l2];simp)];rfl
    rw[e2,zge (s:={s with B:=⟨#[a,b,d]⟩}) (l:=[b,d]) rfl hne f];have g3:zq [a,b,d] (f.toNat:Int)=true:=by
     show(decide (128<=(f.toNat:Int))&&decide ((f.toNat:Int)<=191))=true;simp;omega
    unfold zbc;rw[if_neg (by rw[g3];simp),if_pos (by rw[l2];rfl)];show zba {s with B:=⟨#[]⟩} (Zn [a,b,d,f])=_;rw[hE];have el:Zn [a,b,d,f]=(c:Int):=by
     show 64*(64*(64*((a.toNat:Int)-240)+b.toNat-128)+d.toNat-128)+f.toNat-128=(c:Int);omega
    rw[el]
theorem znu (r:Int):(zdd r).length<=4:=by
 unfold zdd Utf8.encode;simp only
 repeat' split
 all_goals simp
theorem zsz {s:Rs} (hB:s.B=⟨#[]⟩):zj s [13]=ZQ s 0 s.y:=by
 rw[zeB];unfold za3;rw[hB];rfl
theorem zsA {s:Rs} (hB:s.B=⟨#[]⟩):zj s [10]=zt s:=by
 rw[zeB];unfold za3;rw[hB];rfl
theorem zsB {s:Rs} (hB:s.B=⟨#[]⟩):zj s [8]=ZQ s (s.x-1) s.y:=by
 rw[zeB];unfold za3;rw[hB];rfl
theorem zk0 {W H:Nat} {G:Nat->Nat->zk} {x y:Nat} {r:Int} {n:Pn} (hg:G x y=⟨r,0,n⟩) (hr:wd r=1):zR W H G x y r n=G:=by
 unfold zR;rw[if_pos hr];unfold setG;split
 ·simp only[Int.toNat_natCast,hg];funext a b;unfold upd;by_cases e:a=x/\b=y
  ·obtain⟨rfl,rfl⟩:=e;simp[hg]
  ·simp[e]
 ·rfl
theorem zk1 {W H:Nat} {G:Nat->Nat->zk} {x y:Nat} {r:Int} {n:Pn} (hg:G x y=⟨r,1,n⟩) (hg':G (x+1) y=⟨r,2,n⟩) (hx:x+1<W) (hy:y<H) (hr:wd r=2):zR W H G x y r n=G:=by
 unfold zR;have i1:inG W H x y=true:=zu.2 (by omega);have i2:inG W H ((x:Int)+1) y=true:=zu.2 (by omega);rw[if_neg (by omega),if_pos ⟨i1,i2⟩];unfold setG;rw[if_pos i2,if_pos i1];have t:((x:Int)+1).toNat=x+1:=by omega
 simp only[Int.toNat_natCast,t,hg];funext a b;by_cases e:a=x/\b=y
 ·obtain⟨rfl,rfl⟩:=e;simp[upd,hg]
 ·by_cases e':a=x+1/\b=y
  ·obtain⟨rfl,rfl⟩:=e';simp[upd,hg']
  ·simp[upd,e,e',blk]
structure Sp where
 x:Int
 y:Int
 pend:Bool
 pen:Pn
structure Wy where
 b:List UInt8
 k:Nat
 e:Sp
structure Gl where
 x:Int
 y:Int
 pen:Pn
 letter:Bool
def Sp.eqB (a b:Sp):Bool:=decide (a.x=b.x)&&decide (a.y=b.y)&&(a.pend==b.pend)&&a.pen.eqB b.pen
theorem Sp.eqB_iff {a b:Sp}:a.eqB b=true↔a=b:=by
 obtain⟨x,y,p,n⟩:=a;obtain⟨x',y',p',n'⟩:=b;simp[Sp.eqB,and_assoc,Pn.eqB_iff]
def Sp.move (s:Sp) (x y:Int):Sp:=⟨x,y,false,s.pen⟩
def Sp.ink (s:Sp) (n:Pn):Sp:=⟨s.x,s.y,s.pend,n⟩
def Sp.lx (s:Sp):Int:=if s.pend=true then 0 else s.x
def Sp.ly (s:Sp):Int:=if s.pend=true then s.y+1 else s.y
def Gl.isAt (g:Gl) (s:Sp):Bool:=if s.pend=true/\g.letter=false then false else decide (s.lx=g.x)&&decide (s.ly=g.y)&&s.pen.eqB g.pen
def Rs.on (s:Rs) (p:Sp):Rs:={s with x:=p.x,y:=p.y,pend:=p.pend,pen:=p.pen}
def Rs.sp (s:Rs):Sp:=⟨s.x,s.y,s.pend,s.pen⟩
structure Rs.Fl (s:Rs):Prop where
 ok:s.Ok
 B:s.B=⟨#[]⟩
 top:s.top=0
 bot:s.bot=(s.H:Int)-1
 pen:s.pen.Ok
structure Sp.In (p:Sp) (s:Rs):Prop where
 x0:0<=p.x
 x1:p.x<s.W
 y0:0<=p.y
 y1:p.y<s.H
 pd:p.pend=true->p.x=(s.W:Int)-1
theorem zvK {s:Rs} (h:s.Ok):s.sp.In s:=⟨h.x0,h.x1,h.y0,h.y1,h.pd⟩
theorem Rs.Fl.on {s:Rs} (h:s.Fl) {p:Sp} (hp:p.In s) (hn:p.pen.Ok):(s.on p).Fl:=
 ⟨⟨h.ok.w1,h.ok.w2,h.ok.h1,h.ok.h2,hp.x0,hp.x1,hp.y0,hp.y1,h.ok.t0,h.ok.tb,h.ok.b1,hp.pd,h.ok.wf⟩,h.B,h.top,h.bot,hn⟩
def zcH (s:Rs) (f:Sp) (x y k:Int):Sp:=if inG s.W s.H (x+k) y=true then⟨x+k,y,false,f.pen⟩ else⟨x+k-1,y,true,f.pen⟩
def zaZ (s:Rs) (f:Sp):List Wy:=
 if inG s.W s.H f.lx f.ly=true then
  (if (s.G f.lx.toNat f.ly.toNat).p=2\/(s.G f.lx.toNat f.ly.toNat).n.eqB f.pen=false then[]
    else[⟨zdd (s.G f.lx.toNat f.ly.toNat).r,0,zcH s f f.lx f.ly (wd (s.G f.lx.toNat f.ly.toNat).r)⟩])
 else[]
def zhR (a b:Int):Int:=if b>a then b else a
def zbr (s:Rs) (f:Sp) (g:Gl):List Wy:=
 [⟨[13],0,f.move 0 f.y⟩,⟨[8],0,f.move (zhR (f.x-1) 0) f.y⟩,⟨[],0,f.ink g.pen⟩]
 ++ (if inG s.W s.H f.x (f.y+1)=true then[⟨[10],0,f.move f.x (f.y+1)⟩] else[])
 ++ (if f.y=g.y then[] else[⟨Zy (g.y-f.y) 66 65,0,f.move f.x g.y⟩])
 ++ (if f.x=g.x then[] else[⟨Zy (g.x-f.x) 67 68,0,f.move g.x f.y⟩])
 ++ zaZ s f
theorem zi0 (s:Rs) (f:Sp) (g:Gl):(zbr s f g).length<=7:=by
 have ha:(zaZ s f).length<=1:=by
  unfold zaZ;split
  ·split<;>simp
  ·simp
 simp only[zbr,List.length_append,List.length_cons,List.length_nil];have h1:(if inG s.W s.H f.x (f.y+1)=true then[(⟨[10],0,f.move f.x (f.y+1)⟩:Wy)] else[]).length<=1:=by split<;>simp
 have h2:(if f.y=g.y then[] else[(⟨Zy (g.y-f.y) 66 65,0,f.move f.x g.y⟩:Wy)]).length<=1:=by split<;>simp
 have h3:(if f.x=g.x then[] else[(⟨Zy (g.x-f.x) 67 68,0,f.move g.x f.y⟩:Wy)]).length<=1:=by split<;>simp
 omega
structure zqv (s:Rs) (f:Sp) (g:Gl) (st:Wy):Prop where
 inn:st.e.In s
 how:(st.e.pen=f.pen/\zj (s.on f) st.b=s.on st.e)\/(st.b=[]/\st.e=f.ink g.pen)
section
variable {s:Rs} {f:Sp} {g:Gl}
theorem zoC (h:s.Fl) (hin:inG s.W s.H f.lx f.ly=true) (hp:(s.G f.lx.toNat f.ly.toNat).p≠2) (hq:(s.G f.lx.toNat f.ly.toNat).n=f.pen):
 zba (s.on f) (s.G f.lx.toNat f.ly.toNat).r=s.on (zcH s f f.lx f.ly (wd (s.G f.lx.toNat f.ly.toNat).r))/\(zcH s f f.lx f.ly (wd (s.G f.lx.toNat f.ly.toNat).r)).In s/\wd (s.G f.lx.toNat f.ly.toNat).r≠0:=by
 have ok:=h.ok;obtain⟨a0,a1,b0,b1⟩:=zu.1 hin;obtain⟨x,hx⟩:=Int.eq_ofNat_of_zero_le a0;obtain⟨y,hy⟩:=Int.eq_ofNat_of_zero_le b0;rw[hx] at a1;rw[hy] at b1;rw[hx,hy] at hp hq ⊢;simp only[Int.toNat_natCast] at hp hq ⊢;have hx':x<s.W:=by omega
 have hy':y<s.H:=by omega
 have w1:=ok.w1;have hb:∀k,(k=1\/(k=2/\x+1<s.W))->zaa (s.on f) k=s.on ⟨x,y,false,f.pen⟩:=by
  intro k hk;unfold zaa zb8;cases hpd:f.pend with
  |true=>
   have e1:f.lx=0:=by simp[Sp.lx,hpd]
   have e2:f.ly=f.y+1:=by simp[Sp.ly,hpd]
   rw[if_pos (by show(f.pend||_)=true;rw[hpd];rfl)];unfold zt;rw[if_neg (by show¬f.y=s.bot;rw[h.bot];omega)];show ZQ _ (0:Int) (f.y+1)=_;rw[zco (by omega) (by show(0:Int)<s.W;omega) (by omega) (by show f.y+1<(s.H:Int);omega)];have:f.y+1=y:=by omega
   have:(0:Int)=x:=by omega
   simp only[Rs.on];congr 1
  |false=>
   have e1:f.lx=f.x:=by simp[Sp.lx,hpd]
   have e2:f.ly=f.y:=by simp[Sp.ly,hpd]
   rw[if_neg]
   ·show s.on f=s.on ⟨x,y,false,f.pen⟩;rw[←hpd];simp only[Rs.on];congr 1<;>omega
   ·show¬(f.pend||(decide (k=2)&&decide (f.x=(s.W:Int)-1)))=true;rw[hpd];simp;omega
 have hst:∀k:Int,(k=1\/(k=2/\x+1<s.W))->zcr (s.on ⟨x,y,false,f.pen⟩) k=s.on (zcH s f x y k)/\(zcH s f x y k).In s:=by
  intro k hk;unfold zcr zcH;by_cases hc:(s.W:Int)<=x+k
  ·have hni:¬inG s.W s.H ((x:Int)+k) y=true:=λq=>by have:=zu.1 q;omega
   rw[if_pos (show((s.on ⟨x,y,false,f.pen⟩).W:Int)<=(s.on ⟨x,y,false,f.pen⟩).x+k from hc),if_neg hni];refine⟨?_,⟨by show(0:Int)<=x+k-1;omega,by show(x:Int)+k-1<s.W;omega,by show(0:Int)<=y;omega,by show(y:Int)<s.H;omega,λ_=>by show(x:Int)+k-1=(s.W:Int)-1;omega⟩⟩;simp only[Rs.on];congr 1;omega
  ·have hi:inG s.W s.H ((x:Int)+k) y=true:=zu.2 (by omega);rw[if_neg (show¬((s.on ⟨x,y,false,f.pen⟩).W:Int)<=(s.on ⟨x,y,false,f.pen⟩).x+k from hc),if_pos hi];exact⟨rfl,⟨by show(0:Int)<=x+k;omega,by show(x:Int)+k<s.W;omega,by show(0:Int)<=y;omega,by show(y:Int)<s.H;omega,λq=>by cases q⟩⟩
 rcases ok.wf.part x y hx' hy' with⟨p0,w0⟩|⟨p0,w0⟩|⟨p0,w0⟩
 ·obtain⟨e1,e2⟩:=hst 1 (.inl rfl);rw[w0];refine⟨?_,e2,by decide⟩;unfold zba;rw[if_neg (by rw[w0];decide)];have ew:ze1 (s.on f).W (s.G x y).r=1:=by unfold ze1;rw[if_neg (by rw[w0];omega),w0]
  have er:zeq (s.on f).W (s.G x y).r=(s.G x y).r:=by unfold zeq;rw[if_neg (by rw[w0];omega)]
  rw[ew,er,hb 1 (.inl rfl)];have eg:za8 (s.on ⟨x,y,false,f.pen⟩) (s.G x y).r=s.on ⟨x,y,false,f.pen⟩:=by
   unfold za8;have:zR s.W s.H s.G x y (s.G x y).r f.pen=s.G:=zk0 (by rw[←hq,←p0]) w0;simp only[Rs.on];rw[this]
  rw[eg,e1]
 ·obtain⟨hh,ht⟩:=ok.wf.head x y hx' hy' p0;obtain⟨e1,e2⟩:=hst 2 (.inr ⟨rfl,hh⟩);rw[w0];refine⟨?_,e2,by decide⟩;unfold zba;rw[if_neg (by rw[w0];decide)];have ew:ze1 (s.on f).W (s.G x y).r=2:=by unfold ze1;rw[if_neg (by rintro⟨_,q⟩;have:s.W=1:=q;omega),w0]
  have er:zeq (s.on f).W (s.G x y).r=(s.G x y).r:=by unfold zeq;rw[if_neg (by rintro⟨_,q⟩;have:s.W=1:=q;omega)]
  rw[ew,er,hb 2 (.inr ⟨rfl,hh⟩)];have eg:za8 (s.on ⟨x,y,false,f.pen⟩) (s.G x y).r=s.on ⟨x,y,false,f.pen⟩:=by
   unfold za8;have:zR s.W s.H s.G x y (s.G x y).r f.pen=s.G:=zk1 (by rw[←hq,←p0]) (by rw[ht,hq]) hh hy' w0;simp only[Rs.on];rw[this]
  rw[eg,e1]
 ·exact absurd p0 hp
theorem zqw (h:s.Fl) (hf:f.In s) (hn:f.pen.Ok) (gx0:0<=g.x) (gx1:g.x<s.W) (gy0:0<=g.y) (gy1:g.y<s.H):∀st∈zbr s f g,zqv s f g st:=by
 have ok:=h.ok;have w2:=ok.w2;have h2:=ok.h2;have w1:=ok.w1;have fl:=h.on hf hn;have fx0:=hf.x0;have fx1:=hf.x1;have fy0:=hf.y0;have fy1:=hf.y1;intro st hst;simp only[zbr,List.mem_append,List.mem_cons,List.not_mem_nil,or_false] at hst;rcases hst with((((rfl|rfl|rfl)|hst)|hst)|hst)|hst
 ·refine⟨⟨by show(0:Int)<=0;omega,by show(0:Int)<s.W;omega,fy0,fy1,λq=>by cases q⟩,.inl ⟨rfl,?_⟩⟩;rw[zsz fl.B,zco (s:=s.on f) (x:=0) (y:=(s.on f).y) (by omega) (by show(0:Int)<s.W;omega) fy0 fy1];rfl
 ·have hg:0<=zhR (f.x-1) 0/\zhR (f.x-1) 0<s.W/\zhR (f.x-1) 0=zap (f.x-1) s.W:=by
   unfold zhR zap;by_cases hc:f.x-1<0
   ·rw[if_pos hc,if_pos (by omega)];omega
   ·rw[if_neg hc,if_neg (by omega),if_neg (by omega)];omega
  refine⟨⟨hg.1,hg.2.1,fy0,fy1,λq=>by cases q⟩,.inl ⟨rfl,?_⟩⟩;rw[zsB fl.B];unfold ZQ;show({s.on f with x:=zap (f.x-1) s.W,y:=zap f.y s.H,pend:=false}:Rs)=s.on (f.move (zhR (f.x-1) 0) f.y);rw[hg.2.2,zf9 fy0 fy1];rfl
 ·exact⟨⟨fx0,fx1,fy0,fy1,hf.pd⟩,.inr ⟨rfl,rfl⟩⟩
 ·split at hst
  ·rename_i hin;obtain⟨_,_,_,b1⟩:=zu.1 hin;rw[List.mem_singleton] at hst;subst hst;refine⟨⟨fx0,fx1,by show(0:Int)<=f.y+1;omega,b1,λq=>by cases q⟩,.inl ⟨rfl,?_⟩⟩;rw[zsA fl.B];unfold zt;rw[if_neg (by show¬f.y=s.bot;rw[h.bot];omega)];show ZQ (s.on f) f.x (f.y+1)=_;rw[zco (s:=s.on f) fx0 fx1 (by omega) b1];rfl
  ·cases hst
 ·split at hst
  ·cases hst
  ·rename_i hne;rw[List.mem_singleton] at hst;subst hst;refine⟨⟨fx0,fx1,gy0,gy1,λq=>by cases q⟩,.inl ⟨rfl,?_⟩⟩;have:=zow (s:=s.on f) fl.B (y:=g.y) fx0 fx1 fy0 fy1 gy0 gy1 h2 hne;exact this
 ·split at hst
  ·cases hst
  ·rename_i hne;rw[List.mem_singleton] at hst;subst hst;refine⟨⟨gx0,gx1,fy0,fy1,λq=>by cases q⟩,.inl ⟨rfl,?_⟩⟩;have:=zmt (s:=s.on f) fl.B (x:=g.x) fx0 fx1 fy0 fy1 gx0 gx1 w2 hne;exact this
 ·unfold zaZ at hst;split at hst
  ·rename_i hin;split at hst
   ·cases hst
   ·rename_i hc;rw[List.mem_singleton] at hst;subst hst;have hc1:(s.G f.lx.toNat f.ly.toNat).p≠2:=λq=>hc (.inl q);have hc2:(s.G f.lx.toNat f.ly.toNat).n=f.pen:=by
     cases q:(s.G f.lx.toNat f.ly.toNat).n.eqB f.pen with
     |true=>exact Pn.eqB_iff.1 q
     |false=>exact absurd (.inr q) hc
    obtain⟨e1,e2,e3⟩:=zoC h hin hc1 hc2;refine⟨e2,.inl ⟨?_,?_⟩⟩
    ·show(zcH s f _ _ _).pen=_;unfold zcH;split<;>rfl
    ·show zj _ (zdd _)=_;rw[zgI fl.B e3,e1]
  ·cases hst
end
def wy0:Wy:=⟨[],0,⟨0,0,false,Pn.plain⟩⟩
def gW (l:List Wy) (i:Nat):Wy:=l.getD i wy0
def swL (l:List Wy) (i j:Nat):List Wy:=(l.set i (gW l j)).set j (gW l i)
def upL (l:List Wy) (j:Nat):List Wy:=
 if _h:j≠0/\(gW l j).b.length<(gW l ((j-1)/2)).b.length then upL (swL l ((j-1)/2) j) ((j-1)/2) else l
termination_by j
decreasing_by omega
def zb2 (l:List Wy) (i n:Nat):Nat:=if 2*i+2<n/\(gW l (2*i+2)).b.length<(gW l (2*i+1)).b.length then 2*i+2 else 2*i+1
theorem zk2 (l:List Wy) (i n:Nat) (h:2*i+1<n):zb2 l i n<n/\i<zb2 l i n:=by
 unfold zb2;split<;>omega
def zeg (l:List Wy) (i n:Nat):List Wy:=
 if _h:2*i+1<n/\(gW l (zb2 l i n)).b.length<(gW l i).b.length then zeg (swL l i (zb2 l i n)) (zb2 l i n) n else l
termination_by n - i
decreasing_by have := zk2 l i n _h.1; omega
theorem zjV {l:List Wy} {i j:Nat} (hi:i<l.length) (hj:j<l.length):List.Perm (swL l i j) l:=by
 unfold swL gW;have ei:l.getD i wy0=l[i]:=by simp[List.getD,hi]
 have ej:l.getD j wy0=l[j]:=by simp[List.getD,hj]
 rw[ei,ej];exact List.set_set_perm hi hj
theorem zc6 (l:List Wy) (i j:Nat):(swL l i j).length=l.length:=by simp[swL]
theorem zsC:∀(j:Nat) (l:List Wy),j<l.length->List.Perm (upL l j) l:=by
 intro j;induction j using Nat.strongRecOn with
 |_ j ih=>
  intro l hj;rw[upL];split
  ·rename_i h;exact(ih _ (by omega) _ (by rw[zc6];omega)).trans (zjV (by omega) hj)
  ·exact List.Perm.refl _
theorem zoD:∀(d:Nat) (l:List Wy) (i n:Nat),n-i=d->n<=l.length->List.Perm (zeg l i n) l:=by
 intro d;induction d using Nat.strongRecOn with
 |_ d ih=>
  intro l i n hd hn;rw[zeg];split
  ·rename_i h;have hl:=zk2 l i n h.1;exact(ih _ (by omega) _ _ _ rfl (by rw[zc6];exact hn)).trans (zjV (by omega) (by omega))
  ·exact List.Perm.refl _
def zix (l:List Wy):List Wy:=zeg (swL l 0 (l.length-1)) 0 (l.length-1)
def zbD (l:List Wy):Wy:=gW (zix l) (l.length-1)
def zcL (l:List Wy):List Wy:=(zix l).take (l.length-1)
def zfc (l:List Wy) (w:Wy):List Wy:=upL (l ++ [w]) l.length
theorem zi1 {l:List Wy} (h:l≠[]):List.Perm (zix l) l:=by
 have hl:=List.length_pos_iff.2 h;exact(zoD _ _ _ _ rfl (by rw[zc6];omega)).trans (zjV hl (by omega))
theorem zk3 {l:List Wy} (h:l≠[]):List.Perm (zcL l ++ [zbD l]) l:=by
 have hl:=List.length_pos_iff.2 h;have hp:=zi1 h;have hlen:=hp.length_eq;have:zcL l ++ [zbD l]=zix l:=by
  unfold zcL zbD gW;have e:(zix l).getD (l.length-1) wy0=(zix l)[l.length-1]'(by omega):=by simp[List.getD,show l.length-1<(zix l).length by omega]
  rw[e,←List.take_succ_eq_append_getElem,List.take_of_length_le (by omega)]
 rw[this];exact hp
theorem zhS {l:List Wy} (h:l≠[]):(zcL l).length+1=l.length:=by
 have:=(zk3 h).length_eq;simpa using this
theorem zgf (l:List Wy) (w:Wy):List.Perm (zfc l w) (l ++ [w]):=zsC _ _ (by simp)
theorem zqx (l:List Wy) (w:Wy):(zfc l w).length=l.length+1:=by
 have:=(zgf l w).length_eq;simpa using this
def zaF (w st:Wy):Wy:=⟨w.b++st.b,if w.e.pen.eqB st.e.pen=true then w.k else w.b.length,st.e⟩
def Zz (g:Gl):Wy:=⟨zag g.x g.y,0,⟨g.x,g.y,false,g.pen⟩⟩
def zd6 (s:Rs) (g:Gl):List Wy:=[⟨[],0,s.sp⟩,Zz g]
def zfP (s:Rs) (g:Gl) (w:Wy):List UInt8:=w.b.take w.k++zcD s.pen g.pen++w.b.drop w.k
def zaC (n:Nat) (w:Wy) (sts:List Wy) (o:List Wy):List Wy:=sts.foldl (λo st=>if (zaF w st).b.length<n then zfc o (zaF w st) else o) o
def zeE (kn:List Sp) (p:Sp):Bool:=kn.any (λq=>q.eqB p)
def zds (s:Rs) (g:Gl):Nat->List Wy->List Sp->List UInt8
 |0,_,_=>[]
 |m+1,o,kn=>
  if g.isAt (zbD o).e=true then zfP s g (zbD o)
  else if zeE kn (zbD o).e=true then zds s g m (zcL o) kn
  else zds s g m (zaC (zag g.x g.y).length (zbD o) (zbr s (zbD o).e g) (zcL o)) (kn ++ [(zbD o).e])
def zeF (s:Rs):Nat:=8*(4*(s.H*s.W))+2
def zb3 (s:Rs) (g:Gl):List UInt8:=zds s g (zeF s) (zd6 s g) []
theorem zoE {kn:List Sp} {p:Sp}:zeE kn p=true↔p∈kn:=by
 simp only[zeE,List.any_eq_true,Sp.eqB_iff];constructor
 ·rintro⟨q,hq,rfl⟩;exact hq
 ·intro h;exact⟨p,h,rfl⟩
structure zjW (s:Rs) (g:Gl) (w:Wy):Prop where
 inn:w.e.In s
 pen:w.e.pen=s.pen\/w.e.pen=g.pen
 k:w.k<=w.b.length
 len:w.b.length<=(zag g.x g.y).length
 p1:w.e.pen=s.pen->zj s w.b=s.on w.e
 p2:w.e.pen=g.pen->zj s (zfP s g w)=s.on w.e
structure Gl.In (g:Gl) (s:Rs):Prop where
 x0:0<=g.x
 x1:g.x<s.W
 y0:0<=g.y
 y1:g.y<s.H
 pen:g.pen.Ok
section
variable {s:Rs} {g:Gl}
theorem zqy {w:Wy} (h:s.pen=g.pen):zfP s g w=w.b:=by
 unfold zfP;rw[h,zoy,List.append_nil,List.take_append_drop]
theorem zqz (h:s.Fl):zjW s g ⟨[],0,s.sp⟩:=by
 refine⟨zvK h.ok,.inl rfl,Nat.le_refl 0,Nat.zero_le _,λ_=>rfl,λe=>?_⟩;rw[zqy e];rfl
theorem zk4 (h:s.Fl) (hg:g.In s):zjW s g (Zz g):=by
 have ok:=h.ok;have e0:=zfO h.B hg.pen;refine⟨⟨hg.x0,hg.x1,hg.y0,hg.y1,λq=>by cases q⟩,.inr rfl,Nat.zero_le _,Nat.le_refl _,λe=>?_,λ_=>?_⟩
 ·show zj s (zag g.x g.y)=_;rw[zhP h.B hg.x0 hg.x1 hg.y0 hg.y1 ok.w2 ok.h2];have e':g.pen=s.pen:=e;simp only[Rs.on,Zz];rw[e']
 ·show zj s (([]:List UInt8)++zcD s.pen g.pen++zag g.x g.y)=_;rw[List.nil_append,ZS,e0,zhP (s:={s with pen:=g.pen}) h.B hg.x0 hg.x1 hg.y0 hg.y1 ok.w2 ok.h2];rfl
theorem zqA (h:s.Fl) (hg:g.In s) {w:Wy} (hw:zjW s g w):w.e.pen.Ok:=by
 rcases hw.pen with e|e
 ·rw[e];exact h.pen
 ·rw[e];exact hg.pen
theorem zsD (h:s.Fl) (hg:g.In s) {w st:Wy} (hw:zjW s g w) (hs:zqv s w.e g st) (hl:(zaF w st).b.length<(zag g.x g.y).length):zjW s g (zaF w st):=by
 have hn:=zqA h hg hw;by_cases hp:st.e.pen=w.e.pen
 ·have hk:(zaF w st).k=w.k:=by
   show(if w.e.pen.eqB st.e.pen=true then w.k else w.b.length)=w.k;rw[if_pos (Pn.eqB_iff.2 hp.symm)]
  have hf:zj (s.on w.e) st.b=s.on st.e:=by
   rcases hs.how with⟨_,e⟩|⟨e1,e2⟩
   ·exact e
   ·rw[e1,zqo,e2];have:g.pen=w.e.pen:=by rw[←hp,e2];rfl
    rw[this];rfl
  refine⟨hs.inn,by show st.e.pen=_\/st.e.pen=_;rw[hp];exact hw.pen,?_,Nat.le_of_lt hl,λe=>?_,λe=>?_⟩
  ·rw[hk];show w.k<=(w.b++st.b).length;rw[List.length_append];have:=hw.k;omega
  ·show zj s (w.b++st.b)=s.on st.e;rw[ZS,hw.p1 (hp ▸ e),hf]
  ·show zj s (zfP s g (zaF w st))=s.on st.e;have eo:zfP s g (zaF w st)=zfP s g w++st.b:=by
    unfold zfP;rw[hk];show(w.b++st.b).take w.k++zcD s.pen g.pen++(w.b++st.b).drop w.k=_;rw[List.take_append_of_le_length hw.k,List.drop_append_of_le_length hw.k];simp
   rw[eo,ZS,hw.p2 (hp ▸ e),hf]
 ·rcases hs.how with⟨e,_⟩|⟨e1,e2⟩
  ·exact absurd e hp
  ·have eg:st.e.pen=g.pen:=by rw[e2];rfl
   have ew:w.e.pen=s.pen:=by
    rcases hw.pen with q|q
    ·exact q
    ·exact absurd (eg.trans q.symm) hp
   have hk:(zaF w st).k=w.b.length:=by
    show(if w.e.pen.eqB st.e.pen=true then w.k else w.b.length)=_;rw[if_neg (λq=>hp (Pn.eqB_iff.1 q).symm)]
   refine⟨hs.inn,.inr eg,?_,Nat.le_of_lt hl,λe=>?_,λ_=>?_⟩
   ·rw[hk];show w.b.length<=(w.b++st.b).length;rw[List.length_append];omega
   ·exact absurd ((show st.e.pen=s.pen from e).trans ew.symm) hp
   ·show zj s (zfP s g (zaF w st))=s.on st.e;have eo:zfP s g (zaF w st)=w.b++zcD s.pen g.pen:=by
     unfold zfP;rw[hk];show(w.b++st.b).take w.b.length++zcD s.pen g.pen++(w.b++st.b).drop w.b.length=_;rw[e1];simp
    rw[eo,ZS,hw.p1 ew];have e0:zj (s.on w.e) (zcD (s.on w.e).pen g.pen)={s.on w.e with pen:=g.pen}:=zfO (s:=s.on w.e) h.B hg.pen;have e3:(s.on w.e).pen=s.pen:=ew;rw[e3] at e0;rw[e0,e2];rfl
end
theorem zum:∀(N:Nat) (l:List Nat),l.Nodup->(∀x∈l,x<N)->l.length<=N:=by
 intro N;induction N with
 |zero=>
  intro l _ h;cases l with
  |nil=>exact Nat.le_refl 0
  |cons a r=>exact absurd (h a (List.mem_cons_self ..)) (by omega)
 |succ n ih=>
  intro l hd h;by_cases hm:n∈l
  ·have:=ih (l.erase n) (hd.erase n) (λx hx=>by
    have h1:=(List.Nodup.mem_erase_iff hd).1 hx;have:=h x h1.2;have:=h1.1;omega)
   rw[List.length_erase_of_mem hm] at this;omega
  ·have:=ih l hd (λx hx=>by
    have:=h x hx;have:x≠n:=λe=>hm (e ▸ hx);omega)
   omega
def idx (s:Rs) (g:Gl) (p:Sp):Nat:=((p.y.toNat*s.W+p.x.toNat)*2+(if p.pend=true then 1 else 0))*2+(if p.pen.eqB g.pen=true then 1 else 0)
section
variable {s:Rs} {g:Gl}
def zhT (s:Rs) (g:Gl) (p:Sp):Prop:=p.In s/\(p.pen=s.pen\/p.pen=g.pen)
theorem zun {p:Sp} (h:zhT s g p):idx s g p<4*(s.H*s.W):=by
 obtain⟨⟨x0,x1,y0,y1,_⟩,_⟩:=h;have:=zas (W:=s.W) (H:=s.H) (x:=p.x.toNat) (y:=p.y.toNat) (by omega) (by omega);unfold idx;split<;>split<;>omega
theorem zsE {p q:Sp} (hp:zhT s g p) (hq:zhT s g q) (e:idx s g p=idx s g q):p=q:=by
 obtain⟨⟨x0,x1,y0,y1,_⟩,hpp⟩:=hp;obtain⟨⟨x0',x1',y0',y1',_⟩,hqp⟩:=hq;unfold idx at e;have e1:p.y.toNat*s.W+p.x.toNat=q.y.toNat*s.W+q.x.toNat:=by
  revert e;generalize p.y.toNat*s.W+p.x.toNat=a;generalize q.y.toNat*s.W+q.x.toNat=b;intro e;split at e<;>split at e<;>split at e<;>split at e<;>omega
 have e2:(if p.pend=true then 1 else 0)=(if q.pend=true then 1 else 0):=by
  rw[e1] at e;split at e<;>split at e<;>split at e<;>split at e<;>(first|rfl|(simp_all;done)|(exfalso;omega))
 have e3:(if p.pen.eqB g.pen=true then 1 else 0)=(if q.pen.eqB g.pen=true then 1 else 0):=by
  rw[e1,e2] at e;omega
 have e4:=zcb (W:=s.W) (x:=p.x.toNat) (y:=p.y.toNat) (x':=q.x.toNat) (y':=q.y.toNat) (by omega) (by omega) e1;have pe:p.pend=q.pend:=by
  cases hp:p.pend<;>cases hq:q.pend<;>simp[hp,hq] at e2 ⊢
 have ne:p.pen=q.pen:=by
  by_cases c1:p.pen.eqB g.pen=true<;>by_cases c2:q.pen.eqB g.pen=true
  ·rw[Pn.eqB_iff.1 c1,Pn.eqB_iff.1 c2]
  ·rw[if_pos c1,if_neg c2] at e3;cases e3
  ·rw[if_neg c1,if_pos c2] at e3;cases e3
  ·rcases hpp with a|a
   ·rcases hqp with b|b
    ·rw[a,b]
    ·exact absurd (Pn.eqB_iff.2 b) c2
   ·exact absurd (Pn.eqB_iff.2 a) c1
 obtain⟨x,y,pd,n⟩:=p;obtain⟨x',y',pd',n'⟩:=q;simp only at *;congr 1<;>omega
theorem zqB {kn:List Sp} (hd:kn.Nodup) (h:∀p∈kn,zhT s g p):kn.length<=4*(s.H*s.W):=by
 have:=zum (4*(s.H*s.W)) (kn.map (idx s g)) (by
  unfold List.Nodup;rw[List.pairwise_map];exact hd.imp_of_mem (fun {a b} ha hb hne e=>hne (zsE (h a ha) (h b hb) e))) (λx hx=>by
  obtain⟨p,hp,rfl⟩:=List.mem_map.1 hx;exact zun (h p hp))
 simpa using this
structure zc7 (s:Rs) (g:Gl) (o:List Wy) (kn:List Sp):Prop where
 all:∀w∈o,zjW s g w
 st:Zz g∈o
 nd:kn.Nodup
 kn:∀p∈kn,zhT s g p
def zcE (s:Rs) (o:List Wy) (kn:List Sp):Nat:=8*(4*(s.H*s.W)-kn.length)+o.length
theorem zc7.ne {o:List Wy} {kn:List Sp} (h:zc7 s g o kn):o≠[]:=λe=>by
 have:=h.st;rw[e] at this;cases this
theorem zc7.pop {o:List Wy} {kn:List Sp} (h:zc7 s g o kn):zjW s g (zbD o)/\(∀w∈zcL o,zjW s g w)/\(Zz g∈zcL o\/zbD o=Zz g):=by
 have hp:=zk3 h.ne;refine⟨h.all _ (hp.mem_iff.1 (by simp)),λw hw=>h.all _ (hp.mem_iff.1 (by simp[hw])),?_⟩;have:=hp.mem_iff.2 h.st;rcases List.mem_append.1 this with e|e
 ·exact .inl e
 ·exact .inr (List.mem_singleton.1 e).symm
theorem zgJ (g:Gl):g.isAt (Zz g).e=true:=by
 unfold Gl.isAt Zz;simp[Sp.lx,Sp.ly,Pn.eqB_iff.2]
theorem zk5 {n:Nat} {w:Wy}:∀(sts o:List Wy) (v:Wy),v∈zaC n w sts o->v∈o\/∃st∈sts,v=zaF w st/\(zaF w st).b.length<n:=by
 intro sts;induction sts with
 |nil=>intro o v h;exact .inl h
 |cons st r ih=>
  intro o v h;have h':v∈zaC n w r (if (zaF w st).b.length<n then zfc o (zaF w st) else o):=h;rcases ih _ v h' with a|⟨u,hu,e⟩
  ·split at a
   ·rename_i hl;have:=(zgf o (zaF w st)).mem_iff.1 a;rcases List.mem_append.1 this with b|b
    ·exact .inl b
    ·exact .inr ⟨st,List.mem_cons_self ..,List.mem_singleton.1 b,hl⟩
   ·exact .inl a
  ·exact .inr ⟨u,List.mem_cons_of_mem _ hu,e⟩
theorem zjX {n:Nat} {w:Wy}:∀(sts o:List Wy) (v:Wy),v∈o->v∈zaC n w sts o:=by
 intro sts;induction sts with
 |nil=>intro o v h;exact h
 |cons st r ih=>
  intro o v h;refine ih _ v ?_;show v∈(if (zaF w st).b.length<n then zfc o (zaF w st) else o);split
  ·exact(zgf o (zaF w st)).mem_iff.2 (List.mem_append_left _ h)
  ·exact h
theorem zgK {n:Nat} {w:Wy}:∀(sts o:List Wy),(zaC n w sts o).length<=o.length+sts.length:=by
 intro sts;induction sts with
 |nil=>intro o;exact Nat.le_refl _
 |cons st r ih=>
  intro o;have:=ih (if (zaF w st).b.length<n then zfc o (zaF w st) else o);have h1:(if (zaF w st).b.length<n then zfc o (zaF w st) else o).length<=o.length+1:=by
   split
   ·rw[zqx];omega
   ·omega
  show(zaC n w r _).length<=_;simp only[List.length_cons];omega
theorem zc7.known {o:List Wy} {kn:List Sp} (hi:zc7 s g o kn) (hat:g.isAt (zbD o).e=false):zc7 s g (zcL o) kn/\zcE s (zcL o) kn+1=zcE s o kn:=by
 obtain⟨_,h2,h3⟩:=hi.pop;refine⟨⟨h2,?_,hi.nd,hi.kn⟩,?_⟩
 ·rcases h3 with e|e
  ·exact e
  ·rw[e,zgJ] at hat;cases hat
 ·have:=zhS hi.ne;unfold zcE;omega
theorem zc7.fresh (h:s.Fl) (hg:g.In s) {o:List Wy} {kn:List Sp} (hi:zc7 s g o kn) (hat:g.isAt (zbD o).e=false) (hk:zeE kn (zbD o).e=false):
 zc7 s g (zaC (zag g.x g.y).length (zbD o) (zbr s (zbD o).e g) (zcL o)) (kn ++ [(zbD o).e])/\zcE s (zaC (zag g.x g.y).length (zbD o) (zbr s (zbD o).e g) (zcL o)) (kn ++ [(zbD o).e])<zcE s o kn:=by
 obtain⟨h1,h2,h3⟩:=hi.pop;have hnk:(zbD o).e ∉ kn:=λq=>by rw[zoE.2 q] at hk;cases hk
 have hnd:(kn ++ [(zbD o).e]).Nodup:=by
  rw[List.nodup_append];refine⟨hi.nd,by simp,λa ha b hb e=>?_⟩;rw[List.mem_singleton.1 hb] at e;exact hnk (e ▸ ha)
 have hkn:∀p∈kn ++ [(zbD o).e],zhT s g p:=λp hp=>by
  rcases List.mem_append.1 hp with e|e
  ·exact hi.kn p e
  ·rw[List.mem_singleton.1 e];exact⟨h1.inn,h1.pen⟩
 refine⟨⟨λw hw=>?_,zjX _ _ _ ?_,hnd,hkn⟩,?_⟩
 ·rcases zk5 _ _ _ hw with e|⟨st,hst,rfl,hl⟩
  ·exact h2 w e
  ·exact zsD h hg h1 (zqw h h1.inn (zqA h hg h1) hg.x0 hg.x1 hg.y0 hg.y1 st hst) hl
 ·rcases h3 with e|e
  ·exact e
  ·rw[e,zgJ] at hat;cases hat
 ·have a1:=zhS hi.ne;have a2:=zgK (n:=(zag g.x g.y).length) (w:=zbD o) (zbr s (zbD o).e g) (zcL o);have a3:=zi0 s (zbD o).e g;have a4:=zqB hnd hkn;simp only[List.length_append,List.length_cons,List.length_nil] at a4;unfold zcE;simp only[List.length_append,List.length_cons,List.length_nil];omega
theorem zoF (h:s.Fl) (hg:g.In s):∀(m:Nat) (o:List Wy) (kn:List Sp),zc7 s g o kn->zcE s o kn<=m->∃w,zjW s g w/\g.isAt w.e=true/\zds s g m o kn=zfP s g w:=by
 intro m;induction m with
 |zero=>
  intro o kn hi hm;have:0<o.length:=List.length_pos_iff.2 hi.ne;unfold zcE at hm;omega
 |succ m ih=>
  intro o kn hi hm;unfold zds;cases hat:g.isAt (zbD o).e with
  |true=>rw[if_pos rfl];exact⟨_,hi.pop.1,hat,rfl⟩
  |false=>
   rw[if_neg (by decide)];cases hk:zeE kn (zbD o).e with
   |true=>
    rw[if_pos rfl];obtain⟨i1,i2⟩:=hi.known hat;exact ih _ _ i1 (by omega)
   |false=>
    rw[if_neg (by decide)];obtain⟨i1,i2⟩:=hi.fresh h hg hat hk;exact ih _ _ i1 (by omega)
theorem zgg (h:s.Fl) (hg:g.In s):zc7 s g (zd6 s g) []/\zcE s (zd6 s g) []<=zeF s:=by
 refine⟨⟨λw hw=>?_,?_,List.nodup_nil,λp hp=>by cases hp⟩,?_⟩
 ·simp only[zd6,List.mem_cons,List.not_mem_nil,or_false] at hw;rcases hw with rfl|rfl
  ·exact zqz h
  ·exact zk4 h hg
 ·simp[zd6]
 ·simp[zcE,zd6,zeF]
theorem zdm (h:s.Fl) (hg:g.In s):∃p:Sp,zj s (zb3 s g)=s.on p/\p.In s/\g.isAt p=true/\(zb3 s g).length<=28:=by
 obtain⟨i1,i2⟩:=zgg h hg;obtain⟨w,hw,hat,e⟩:=zoF h hg _ _ _ i1 i2;have hn:w.e.pen=g.pen:=by
  unfold Gl.isAt at hat;split at hat
  ·cases hat
  ·simp only[Bool.and_eq_true] at hat;exact Pn.eqB_iff.1 hat.2
 unfold zb3;rw[e];refine⟨w.e,hw.p2 hn,hw.inn,hat,?_⟩;have a1:=zkZ s.pen hg.pen;have a2:=hw.len;have a3:(zag g.x g.y).length<=8:=zga (by have:=hg.x1;have:=h.ok.w2;omega) (by have:=hg.y1;have:=h.ok.h2;omega);have a4:=hw.k;simp only[zfP,List.length_append,List.length_take,List.length_drop];omega
end
def zci (p:Nat->Bool):Nat->Nat->Nat
 |0,_=>0
 |m+1,i=>if p i=true then zci p m (i+1)+1 else 0
theorem zmv (p:Nat->Bool):∀m i,zci p m i<=m:=by
 intro m;induction m with
 |zero=>intro i;exact Nat.le_refl 0
 |succ m ih=>
  intro i;unfold zci;split
  ·have:=ih (i+1);omega
  ·omega
theorem zsF (p:Nat->Bool):∀m i j,i<=j->j<i+zci p m i->p j=true:=by
 intro m;induction m with
 |zero=>intro i j h1 h2;simp[zci] at h2;omega
 |succ m ih=>
  intro i j h1 h2;unfold zci at h2;split at h2
  ·rename_i hp;by_cases e:j=i
   ·rw[e];exact hp
   ·exact ih (i+1) j (by omega) (by omega)
  ·omega
def zaI (P:Nat->Nat->zk) (W x y:Nat):Nat:=zci (λi=>(P i y).eqB (P x y)) (W-x) x
def zdt (P:Nat->Nat->zk) (W H y:Nat) (c:zk):Bool:=(List.range (H-y)).all (λi=>(P 0 (y+i)).eqB c&&decide (W<=zaI P W 0 (y+i)))
def ZL (s:Rs) (P:Nat->Nat->zk) (x y:Nat):Bool:=!(s.G x y).eqB (P x y)
def zdJ (s:Rs) (P:Nat->Nat->zk) (x y:Nat):Nat->Nat
 |0=>0
 |1=>1
 |n+2=>if ZL s P ((x+(n+1))%s.W) (y+(x+(n+1))/s.W)=true then n+2 else zdJ s P x y (n+1)
def zi2 (c:zk):zk:=blk ⟨0,c.n.b,false,false,false⟩
def ze3 (P:Nat->Nat->zk) (W H x y:Nat):List UInt8 × Nat:=
 if x+zaI P W x y<W then(zaP 88 [zb7 (zaI P W x y)],zaI P W x y)
 else if zdt P W H (y+1) (P x y)=true then(zaP 74 [],zaI P W x y+W*(H-(y+1))) else(zaP 75 [],zaI P W x y)
def zaQ (s:Rs) (P:Nat->Nat->zk) (x y:Nat):List UInt8:=
 if (P x y).eqB (zi2 (P x y))=false then[]
 else if (ze3 P s.W s.H x y).1.length<zdJ s P x y (ze3 P s.W s.H x y).2 then(ze3 P s.W s.H x y).1 else[]
def zaR (s:Rs) (b:Int):Pn:={s.pen with b:=b}
def zbs (s:Rs) (P:Nat->Nat->zk) (x y:Nat):List UInt8:=
 if zaQ s P x y=[] then zb3 s ⟨x,y,(P x y).n,true⟩++zdd (P x y).r
 else zb3 s ⟨x,y,zaR s (P x y).n.b,false⟩++zaQ s P x y
def zgh (P:Nat->Nat->zk) (st:Rs × List UInt8) (x y:Nat):Rs × List UInt8:=
 if ZL st.1 P x y=true then(zj st.1 (zbs st.1 P x y),st.2++zbs st.1 P x y) else st
def zau (P:Nat->Nat->zk) (W:Nat) (st:Rs × List UInt8):Nat->Rs × List UInt8
 |0=>st
 |i+1=>zgh P (zau P W st i) (i%W) (i/W)
def zab (s:Rs) (n:Int):List UInt8:=zcD s.pen (zaR s 0)++Zy n 83 84
def zgi (s:Rs) (n:Int):Rs × List UInt8:=if n=0 then(s,[]) else(zj s (zab s n),zab s n)
def ZT (s:Rs) (P:Nat->Nat->zk) (n:Int):List UInt8:=(zau P s.W (zgi s n) (s.H*s.W)).2
def zcz (s:Rs) (x:Nat) (y:Int):zk:=if inG s.W s.H x y=true then s.G x y.toNat else blk Pn.plain
def za0 (p:Nat->Bool):Nat->Nat
 |0=>0
 |i+1=>za0 p i+(if p i=true then 1 else 0)
def ZA (s:Rs) (P:Nat->Nat->zk) (n:Int):Nat:=za0 (λi=>!(zcz s (i%s.W) ((i/s.W:Nat)+n)).eqB (P (i%s.W) (i/s.W))) (s.H*s.W)
def zbl (s:Rs) (P:Nat->Nat->zk) (st:Int × Nat) (n:Int):Int × Nat:=if ZA s P n<st.2 then(n,ZA s P n) else st
def zaw (s:Rs) (P:Nat->Nat->zk):Nat->Int × Nat
 |0=>(0,ZA s P 0)
 |l+1=>zbl s P (zbl s P (zaw s P l) ((l+1:Nat):Int)) (-((l+1:Nat):Int))
def zdu (s:Rs) (P:Nat->Nat->zk):List UInt8:=
 if (zaw s P s.H).1≠0/\(ZT s P (zaw s P s.H).1).length<(ZT s P 0).length then ZT s P (zaw s P s.H).1 else ZT s P 0
section
variable {s:Rs} {P:Nat->Nat->zk}
theorem zqC (W x y:Nat):zaI P W x y<=W-x:=zmv _ _ _
theorem zfQ {W x y j:Nat} (h1:x<=j) (h2:j<x+zaI P W x y):P j y=P x y:=zk.eqB_iff.1 (zsF _ _ _ _ h1 h2)
theorem zoG {W x y:Nat} (h:x<W):1<=zaI P W x y:=by
 unfold zaI;obtain⟨m,e⟩:∃m,W-x=m+1:=⟨W-x-1,by omega⟩;rw[e];unfold zci;rw[if_pos (zk.eqB_iff.2 rfl)];omega
theorem zqD {W H y:Nat} {c:zk} (h:zdt P W H y c=true) {a b:Nat} (h1:y<=b) (h2:b<H) (ha:a<W):P a b=c:=by
 simp only[zdt,List.all_eq_true,List.mem_range,Bool.and_eq_true,decide_eq_true_eq] at h;obtain⟨e1,e2⟩:=h (b-y) (by omega);have eb:y+(b-y)=b:=by omega
 rw[eb] at e1 e2;rw[zfQ (P:=P) (W:=W) (x:=0) (y:=b) (j:=a) (by omega) (by omega)];exact zk.eqB_iff.1 e1
theorem zd7 (p:Nat->Bool) (n:Nat):za0 p n<=n:=by
 induction n with
 |zero=>exact Nat.le_refl 0
 |succ n ih=>unfold za0;split<;>omega
theorem znv (l:Nat):(zaw s P l).2=ZA s P (zaw s P l).1/\(-(l:Int)<=(zaw s P l).1/\(zaw s P l).1<=l)/\(∀n:Int,-(l:Int)<=n->n<=l->(zaw s P l).2<=ZA s P n):=by
 have hs:∀(st:Int × Nat) (n:Int),st.2=ZA s P st.1->(zbl s P st n).2=ZA s P (zbl s P st n).1/\((zbl s P st n).1=st.1\/(zbl s P st n).1=n)/\(zbl s P st n).2<=st.2/\(zbl s P st n).2<=ZA s P n:=by
  intro st n h;unfold zbl;split
  ·exact⟨rfl,.inr rfl,by simp only;omega,Nat.le_refl _⟩
  ·exact⟨h,.inl rfl,Nat.le_refl _,by omega⟩
 induction l with
 |zero=>
  refine⟨rfl,⟨by show -((0:Nat):Int)<=0;omega,by show(0:Int)<=((0:Nat):Int);omega⟩,λn h1 h2=>?_⟩;obtain rfl:n=0:=by omega
  exact Nat.le_refl _
 |succ l ih=>
  obtain⟨i1,⟨i2,i3⟩,i4⟩:=ih;obtain⟨a1,a2,a3,a4⟩:=hs _ ((l+1:Nat):Int) i1;obtain⟨b1,b2,b3,b4⟩:=hs _ (-((l+1:Nat):Int)) a1;show(zbl s P (zbl s P (zaw s P l) ((l+1:Nat):Int)) (-((l+1:Nat):Int))).2=_/\_;refine⟨b1,?_,?_⟩
  ·show -((l+1:Nat):Int)<=(zbl s P (zbl s P (zaw s P l) ((l+1:Nat):Int)) (-((l+1:Nat):Int))).1/\(zbl s P (zbl s P (zaw s P l) ((l+1:Nat):Int)) (-((l+1:Nat):Int))).1<=((l+1:Nat):Int);rcases b2 with e|e
   ·rw[e];rcases a2 with e'|e'
    ·rw[e'];omega
    ·rw[e'];omega
   ·rw[e];omega
  ·intro n h1 h2;show(zbl s P (zbl s P (zaw s P l) ((l+1:Nat):Int)) (-((l+1:Nat):Int))).2<=_;by_cases e1:n=((l+1:Nat):Int)
   ·rw[e1];omega
   ·by_cases e2:n = -((l+1:Nat):Int)
    ·rw[e2];omega
    ·have:=i4 n (by omega) (by omega);omega
theorem zoH (h:ZA s P 0=0) (l:Nat):zaw s P l=(0,0):=by
 induction l with
 |zero=>unfold zaw;rw[h]
 |succ l ih=>
  unfold zaw;rw[ih];have:∀n,zbl s P (0,0) n=(0,0):=λn=>by unfold zbl;rw[if_neg (by simp)]
  rw[this,this]
end
end
end Go.Proofs.YtjlfibhbfdckpaaGreatDoor
