import Derived.Test.YtjlfibhbfdckpaaGreatDoorW23
namespace Go.Proofs.YtjlfibhbfdckpaaGreatDoor
set_option maxHeartbeats 64000000
set_option maxRecDepth 100000
section
open Wd (wd)
def zdf (r:Int):List UInt8:=(Utf8.encode r).data.toList
theorem zqw {r:Int} (h:wd r≠0):Wd.validB r=true/\32<=r/\Wd.inB r 127 159=false:=by
 unfold wd at h;by_cases z:Wd.zeroB r=true
 ·rw[if_pos z] at h;exact absurd rfl h
 ·simp only[Wd.zeroB,Bool.or_eq_true,Bool.not_eq_true',decide_eq_true_eq,not_or,Bool.not_eq_false,Bool.not_eq_true] at z;obtain⟨⟨⟨⟨a,b⟩,c⟩,_⟩,_⟩:=z;exact⟨a,by omega,c⟩
theorem zun {r:Int} (h:Wd.validB r=true):Utf8.valid r=true/\0<=r:=by
 simp only[Wd.validB,Wd.inB,Bool.or_eq_true,Bool.and_eq_true,decide_eq_true_eq] at h;refine⟨?_,by omega⟩;simp only[Utf8.valid,Bool.or_eq_true,Bool.and_eq_true,decide_eq_true_eq];omega
def zjW (c:Nat):List UInt8:=
 if c<128 then[UInt8.ofNat c] else if c<2048 then[UInt8.ofNat (192+c/64),UInt8.ofNat (128+c%64)]
 else if c<65536 then[UInt8.ofNat (224+c/4096),UInt8.ofNat (128+c/64%64),UInt8.ofNat (128+c%64)]
 else[UInt8.ofNat (240+c/262144),UInt8.ofNat (128+c/4096%64),UInt8.ofNat (128+c/64%64),UInt8.ofNat (128+c%64)]
def zsx (c:Nat):ByteArray:=
 if c<128 then⟨#[UInt8.ofNat c]⟩ else if c<2048 then⟨#[UInt8.ofNat (192+c/64),UInt8.ofNat (128+c%64)]⟩
 else if c<65536 then⟨#[UInt8.ofNat (224+c/4096),UInt8.ofNat (128+c/64%64),UInt8.ofNat (128+c%64)]⟩
 else⟨#[UInt8.ofNat (240+c/262144),UInt8.ofNat (128+c/4096%64),UInt8.ofNat (128+c/64%64),UInt8.ofNat (128+c%64)]⟩
theorem zoD (c:Nat):(zsx c).data.toList=zjW c:=by
 unfold zsx zjW;split
 ·rfl
 ·split
  ·rfl
  ·split<;>rfl
theorem zsy (r:Int):Utf8.encode r=zsx (if Utf8.valid r=true then r.toNat else Utf8.runeError):=rfl
theorem zsz {b:Bool} (hb:b=true) (x y z:Nat) (h:x=z):(zsx (if b=true then x else y)).data.toList=zjW z:=by
 rw[if_pos hb,zoD,h]
theorem zsA {r:Int} {c:Nat} (hv:Utf8.valid r=true) (h:r.toNat=c):zdf r=zjW c:=by
 unfold zdf;rw[zsy];exact zsz hv _ _ _ h
theorem zhc {c:Nat} (hv:Utf8.valid c=true):zdf c=zjW c:=zsA hv (Int.toNat_natCast c)
theorem zwI {c:Nat} (hv:Utf8.valid c=true) (h:c<128):zdf c=[UInt8.ofNat c]:=by
 rw[zhc hv];unfold zjW;rw[if_pos h]
theorem zwJ {c:Nat} (hv:Utf8.valid c=true) (h0:¬c<128) (h:c<2048):zdf c=[UInt8.ofNat (192+c/64),UInt8.ofNat (128+c%64)]:=by
 rw[zhc hv];unfold zjW;rw[if_neg h0,if_pos h]
theorem zwK {c:Nat} (hv:Utf8.valid c=true) (h0:¬c<128) (h1:¬c<2048) (h:c<65536):zdf c=[UInt8.ofNat (224+c/4096),UInt8.ofNat (128+c/64%64),UInt8.ofNat (128+c%64)]:=by
 rw[zhc hv];unfold zjW;rw[if_neg h0,if_neg h1,if_pos h]
theorem zwL {c:Nat} (hv:Utf8.valid c=true) (h0:¬c<128) (h1:¬c<2048) (h:¬c<65536):zdf c=[UInt8.ofNat (240+c/262144),UInt8.ofNat (128+c/4096%64),UInt8.ofNat (128+c/64%64),UInt8.ofNat (128+c%64)]:=by
 rw[zhc hv];unfold zjW;rw[if_neg h0,if_neg h1,if_neg h]
theorem zeF {s:Rs} (hB:s.B=⟨#[]⟩) (a:UInt8) (h:0<zS a.toNat):za5 s a={s with B:=⟨#[a]⟩}:=by
 have ha:194<=a.toNat:=by
  rcases Zm a.toNat with q|q|q|q
  ·omega
  ·omega
  ·omega
  ·omega
 unfold za5;rw[hB];show zy s a=_;unfold zy;rw[if_neg (by omega),if_neg (by omega),if_neg (by omega),if_neg (by omega),if_neg (by omega),if_pos h]
theorem zgg {s:Rs} {a:UInt8} {l:List UInt8} (hB:s.B=⟨(a::l).toArray⟩) (ha:a≠27) (c:UInt8):za5 s c=zbe s a l c:=by
 unfold za5;rw[hB];show(if a=27 then _ else zbe s a l c)=_;rw[if_neg ha]
theorem zgK {s:Rs} (hB:s.B=⟨#[]⟩) {r:Int} (h:wd r≠0):zm s (zdf r)=zbc s r:=by
 obtain⟨hv,h32,hc1⟩:=zqw h;obtain⟨hv',h0⟩:=zun hv;simp only[Wd.inB,Bool.and_eq_false_iff,decide_eq_false_iff_not] at hc1;simp only[Wd.validB,Wd.inB,Bool.or_eq_true,Bool.and_eq_true,decide_eq_true_eq] at hv;obtain⟨c,rfl⟩:=Int.eq_ofNat_of_zero_le h0;have hE:=ziZ hB;by_cases c1:c<128
 ·rw[zwI hv' c1,zeD];unfold za5;rw[hB];show zy s _=_;unfold zy;rw[u8n (by omega),if_neg (by omega),if_neg (by omega),if_neg (by omega),if_neg (by omega),if_pos (by omega)]
 ·by_cases c2:c<2048
  ·rw[zwJ hv' c1 c2];have ea:(UInt8.ofNat (192+c/64)).toNat=192+c/64:=u8n (by omega);have eb:(UInt8.ofNat (128+c%64)).toNat=128+c%64:=u8n (by omega);generalize UInt8.ofNat (192+c/64)=a at *;generalize UInt8.ofNat (128+c%64)=b at *;have l2:zS (a.toNat:Int)=2:=by unfold zS;rw[if_pos (by omega)]
   have hne:a≠27:=λq=>by rw[q] at ea;revert ea;show(27:Nat)=_->False;omega
   show za5 (za5 s a) b=_;rw[zeF hB a (by omega),zgg (s:={s with B:=⟨#[a]⟩}) (l:=[]) rfl hne b];unfold zbe;have g:zu [a] (b.toNat:Int)=true:=by
    unfold zu zbd Z8;simp only[Bool.and_eq_true,decide_eq_true_eq];rw[if_neg (by omega),if_neg (by omega),if_neg (by omega),if_neg (by omega)];omega
   rw[if_neg (by rw[g];simp),if_pos (by rw[l2];rfl)];show zbc {s with B:=⟨#[]⟩} (Zp [a,b])=_;rw[hE];have el:Zp [a,b]=(c:Int):=by
    show 64*((a.toNat:Int)-192)+b.toNat-128=(c:Int);omega
   rw[el]
  ·by_cases c3:c<65536
   ·rw[zwK hv' c1 c2 c3];have ea:(UInt8.ofNat (224+c/4096)).toNat=224+c/4096:=u8n (by omega);have eb:(UInt8.ofNat (128+c/64%64)).toNat=128+c/64%64:=u8n (by omega);have ed:(UInt8.ofNat (128+c%64)).toNat=128+c%64:=u8n (by omega);generalize UInt8.ofNat (224+c/4096)=a at *;generalize UInt8.ofNat (128+c/64%64)=b at *;generalize UInt8.ofNat (128+c%64)=d at *;have l2:zS (a.toNat:Int)=3:=by unfold zS;rw[if_neg (by omega),if_pos (by omega)]
    have hne:a≠27:=λq=>by rw[q] at ea;revert ea;show(27:Nat)=_->False;omega
    show za5 (za5 (za5 s a) b) d=_;rw[zeF hB a (by omega),zgg (s:={s with B:=⟨#[a]⟩}) (l:=[]) rfl hne b];have g:zu [a] (b.toNat:Int)=true:=by
     unfold zu zbd Z8;simp only[Bool.and_eq_true,decide_eq_true_eq];constructor
     ·split
      ·omega
      ·rw[if_neg (by omega)];omega
     ·split
      ·omega
      ·rw[if_neg (by omega)];omega
    have e1:zbe {s with B:=⟨#[a]⟩} a [] b={s with B:=⟨#[a,b]⟩}:=by
     unfold zbe;rw[if_neg (by rw[g];simp),if_neg (by rw[l2];simp)];rfl
    rw[e1,zgg (s:={s with B:=⟨#[a,b]⟩}) (l:=[b]) rfl hne d];have g2:zu [a,b] (d.toNat:Int)=true:=by
     show(decide (128<=(d.toNat:Int))&&decide ((d.toNat:Int)<=191))=true;simp;omega
    unfold zbe;rw[if_neg (by rw[g2];simp),if_pos (by rw[l2];rfl)];show zbc {s with B:=⟨#[]⟩} (Zp [a,b,d])=_;rw[hE];have el:Zp [a,b,d]=(c:Int):=by
     show 64*(64*((a.toNat:Int)-224)+b.toNat-128)+d.toNat-128=(c:Int);omega
    rw[el]
   ·rw[zwL hv' c1 c2 c3];have ea:(UInt8.ofNat (240+c/262144)).toNat=240+c/262144:=u8n (by omega);have eb:(UInt8.ofNat (128+c/4096%64)).toNat=128+c/4096%64:=u8n (by omega);have ed:(UInt8.ofNat (128+c/64%64)).toNat=128+c/64%64:=u8n (by omega);have ef:(UInt8.ofNat (128+c%64)).toNat=128+c%64:=u8n (by omega);generalize UInt8.ofNat (240+c/262144)=a at *;generalize UInt8.ofNat (128+c/4096%64)=b at *;generalize UInt8.ofNat (128+c/64%64)=d at *;generalize UInt8.ofNat (128+c%64)=f at *;have l2:zS (a.toNat:Int)=4:=by unfold zS;rw[if_neg (by omega),if_neg (by omega),if_pos (by omega)]
    have hne:a≠27:=λq=>by rw[q] at ea;revert ea;show(27:Nat)=_->False;omega
    show za5 (za5 (za5 (za5 s a) b) d) f=_;rw[zeF hB a (by omega),zgg (s:={s with B:=⟨#[a]⟩}) (l:=[]) rfl hne b];have g:zu [a] (b.toNat:Int)=true:=by
     unfold zu zbd Z8;simp only[Bool.and_eq_true,decide_eq_true_eq];constructor
     ·rw[if_neg (by omega)];split
      ·omega
      ·omega
     ·rw[if_neg (by omega)];split
      ·omega
      ·omega
    have e1:zbe {s with B:=⟨#[a]⟩} a [] b={s with B:=⟨#[a,b]⟩}:=by
     unfold zbe;rw[if_neg (by rw[g];simp),if_neg (by rw[l2];simp)];rfl
    rw[e1,zgg (s:={s with B:=⟨#[a,b]⟩}) (l:=[b]) rfl hne d];have g2:zu [a,b] (d.toNat:Int)=true:=by
     show(decide (128<=(d.toNat:Int))&&decide ((d.toNat:Int)<=191))=true;simp;omega
    have e2:zbe {s with B:=⟨#[a,b]⟩} a [b] d={s with B:=⟨#[a,b,d]⟩}:=by
     unfold zbe;rw[if_neg (by rw[g2];simp),if_neg (by rw[l2];simp)];rfl
    rw[e2,zgg (s:={s with B:=⟨#[a,b,d]⟩}) (l:=[b,d]) rfl hne f];have g3:zu [a,b,d] (f.toNat:Int)=true:=by
     show(decide (128<=(f.toNat:Int))&&decide ((f.toNat:Int)<=191))=true;simp;omega
    unfold zbe;rw[if_neg (by rw[g3];simp),if_pos (by rw[l2];rfl)];show zbc {s with B:=⟨#[]⟩} (Zp [a,b,d,f])=_;rw[hE];have el:Zp [a,b,d,f]=(c:Int):=by
     show 64*(64*(64*((a.toNat:Int)-240)+b.toNat-128)+d.toNat-128)+f.toNat-128=(c:Int);omega
    rw[el]
theorem znw (r:Int):(zdf r).length<=4:=by
 unfold zdf Utf8.encode;simp only
 repeat' split
 all_goals simp
theorem zsB {s:Rs} (hB:s.B=⟨#[]⟩):zm s [13]=ZS s 0 s.y:=by
 rw[zeD];unfold za5;rw[hB];rfl
theorem zsC {s:Rs} (hB:s.B=⟨#[]⟩):zm s [10]=zv s:=by
 rw[zeD];unfold za5;rw[hB];rfl
theorem zsD {s:Rs} (hB:s.B=⟨#[]⟩):zm s [8]=ZS s (s.x-1) s.y:=by
 rw[zeD];unfold za5;rw[hB];rfl
theorem zk2 {W H:Nat} {G:Nat->Nat->zn} {x y:Nat} {r:Int} {n:Pn} (hg:G x y=⟨r,0,n⟩) (hr:wd r=1):zU W H G x y r n=G:=by
 unfold zU;rw[if_pos hr];unfold setG;split
 ·simp only[Int.toNat_natCast,hg];funext a b;unfold upd;by_cases e:a=x/\b=y
  ·obtain⟨rfl,rfl⟩:=e;simp[hg]
  ·simp[e]
 ·rfl
theorem zk3 {W H:Nat} {G:Nat->Nat->zn} {x y:Nat} {r:Int} {n:Pn} (hg:G x y=⟨r,1,n⟩) (hg':G (x+1) y=⟨r,2,n⟩) (hx:x+1<W) (hy:y<H) (hr:wd r=2):zU W H G x y r n=G:=by
 unfold zU;have i1:inG W H x y=true:=zw.2 (by omega);have i2:inG W H ((x:Int)+1) y=true:=zw.2 (by omega);rw[if_neg (by omega),if_pos ⟨i1,i2⟩];unfold setG;rw[if_pos i2,if_pos i1];have t:((x:Int)+1).toNat=x+1:=by omega
 simp only[Int.toNat_natCast,t,hg];funext a b;by_cases e:a=x/\b=y
 ·obtain⟨rfl,rfl⟩:=e;simp[upd,hg]
 ·by_cases e':a=x+1/\b=y
  ·obtain⟨rfl,rfl⟩:=e';simp[upd,hg']
  ·simp[upd,e,e',blk]
structure Sp where
 x:Int
 y:Int
 pend:Bool
 pen:Pn
structure Wy where
 b:List UInt8
 k:Nat
 e:Sp
structure Gl where
 x:Int
 y:Int
 pen:Pn
 letter:Bool
def Sp.eqB (a b:Sp):Bool:=decide (a.x=b.x)&&decide (a.y=b.y)&&(a.pend==b.pend)&&a.pen.eqB b.pen
theorem Sp.eqB_iff {a b:Sp}:a.eqB b=true↔a=b:=by
 obtain⟨x,y,p,n⟩:=a;obtain⟨x',y',p',n'⟩:=b;simp[Sp.eqB,and_assoc,Pn.eqB_iff]
def Sp.move (s:Sp) (x y:Int):Sp:=⟨x,y,false,s.pen⟩
def Sp.ink (s:Sp) (n:Pn):Sp:=⟨s.x,s.y,s.pend,n⟩
def Sp.lx (s:Sp):Int:=if s.pend=true then 0 else s.x
def Sp.ly (s:Sp):Int:=if s.pend=true then s.y+1 else s.y
def Gl.isAt (g:Gl) (s:Sp):Bool:=if s.pend=true/\g.letter=false then false else decide (s.lx=g.x)&&decide (s.ly=g.y)&&s.pen.eqB g.pen
def Rs.on (s:Rs) (p:Sp):Rs:={s with x:=p.x,y:=p.y,pend:=p.pend,pen:=p.pen}
def Rs.sp (s:Rs):Sp:=⟨s.x,s.y,s.pend,s.pen⟩
structure Rs.Fl (s:Rs):Prop where
 ok:s.Ok
 B:s.B=⟨#[]⟩
 top:s.top=0
 bot:s.bot=(s.H:Int)-1
 pen:s.pen.Ok
structure Sp.In (p:Sp) (s:Rs):Prop where
 x0:0<=p.x
 x1:p.x<s.W
 y0:0<=p.y
 y1:p.y<s.H
 pd:p.pend=true->p.x=(s.W:Int)-1
theorem zvM {s:Rs} (h:s.Ok):s.sp.In s:=⟨h.x0,h.x1,h.y0,h.y1,h.pd⟩
theorem Rs.Fl.on {s:Rs} (h:s.Fl) {p:Sp} (hp:p.In s) (hn:p.pen.Ok):(s.on p).Fl:=
 ⟨⟨h.ok.w1,h.ok.w2,h.ok.h1,h.ok.h2,hp.x0,hp.x1,hp.y0,hp.y1,h.ok.t0,h.ok.tb,h.ok.b1,hp.pd,h.ok.wf⟩,h.B,h.top,h.bot,hn⟩
def zcJ (s:Rs) (f:Sp) (x y k:Int):Sp:=if inG s.W s.H (x+k) y=true then⟨x+k,y,false,f.pen⟩ else⟨x+k-1,y,true,f.pen⟩
def za1 (s:Rs) (f:Sp):List Wy:=
 if inG s.W s.H f.lx f.ly=true then
  (if (s.G f.lx.toNat f.ly.toNat).p=2\/(s.G f.lx.toNat f.ly.toNat).n.eqB f.pen=false then[]
    else[⟨zdf (s.G f.lx.toNat f.ly.toNat).r,0,zcJ s f f.lx f.ly (wd (s.G f.lx.toNat f.ly.toNat).r)⟩])
 else[]
def zhT (a b:Int):Int:=if b>a then b else a
def zbt (s:Rs) (f:Sp) (g:Gl):List Wy:=
 [⟨[13],0,f.move 0 f.y⟩,⟨[8],0,f.move (zhT (f.x-1) 0) f.y⟩,⟨[],0,f.ink g.pen⟩]
 ++ (if inG s.W s.H f.x (f.y+1)=true then[⟨[10],0,f.move f.x (f.y+1)⟩] else[])
 ++ (if f.y=g.y then[] else[⟨ZA (g.y-f.y) 66 65,0,f.move f.x g.y⟩])
 ++ (if f.x=g.x then[] else[⟨ZA (g.x-f.x) 67 68,0,f.move g.x f.y⟩])
 ++ za1 s f
theorem zi2 (s:Rs) (f:Sp) (g:Gl):(zbt s f g).length<=7:=by
 have ha:(za1 s f).length<=1:=by
  unfold za1;split
  ·split<;>simp
  ·simp
 simp only[zbt,List.length_append,List.length_cons,List.length_nil];have h1:(if inG s.W s.H f.x (f.y+1)=true then[(⟨[10],0,f.move f.x (f.y+1)⟩:Wy)] else[]).length<=1:=by split<;>simp
 have h2:(if f.y=g.y then[] else[(⟨ZA (g.y-f.y) 66 65,0,f.move f.x g.y⟩:Wy)]).length<=1:=by split<;>simp
 have h3:(if f.x=g.x then[] else[(⟨ZA (g.x-f.x) 67 68,0,f.move g.x f.y⟩:Wy)]).length<=1:=by split<;>simp
 omega
structure zqx (s:Rs) (f:Sp) (g:Gl) (st:Wy):Prop where
 inn:st.e.In s
 how:(st.e.pen=f.pen/\zm (s.on f) st.b=s.on st.e)\/(st.b=[]/\st.e=f.ink g.pen)
section
variable {s:Rs} {f:Sp} {g:Gl}
theorem zoE (h:s.Fl) (hin:inG s.W s.H f.lx f.ly=true) (hp:(s.G f.lx.toNat f.ly.toNat).p≠2) (hq:(s.G f.lx.toNat f.ly.toNat).n=f.pen):
 zbc (s.on f) (s.G f.lx.toNat f.ly.toNat).r=s.on (zcJ s f f.lx f.ly (wd (s.G f.lx.toNat f.ly.toNat).r))/\(zcJ s f f.lx f.ly (wd (s.G f.lx.toNat f.ly.toNat).r)).In s/\wd (s.G f.lx.toNat f.ly.toNat).r≠0:=by
 have ok:=h.ok;obtain⟨a0,a1,b0,b1⟩:=zw.1 hin;obtain⟨x,hx⟩:=Int.eq_ofNat_of_zero_le a0;obtain⟨y,hy⟩:=Int.eq_ofNat_of_zero_le b0;rw[hx] at a1;rw[hy] at b1;rw[hx,hy] at hp hq ⊢;simp only[Int.toNat_natCast] at hp hq ⊢;have hx':x<s.W:=by omega
 have hy':y<s.H:=by omega
 have w1:=ok.w1;have hb:∀k,(k=1\/(k=2/\x+1<s.W))->zac (s.on f) k=s.on ⟨x,y,false,f.pen⟩:=by
  intro k hk;unfold zac zca;cases hpd:f.pend with
  |true=>
   have e1:f.lx=0:=by simp[Sp.lx,hpd]
   have e2:f.ly=f.y+1:=by simp[Sp.ly,hpd]
   rw[if_pos (by show(f.pend||_)=true;rw[hpd];rfl)];unfold zv;rw[if_neg (by show¬f.y=s.bot;rw[h.bot];omega)];show ZS _ (0:Int) (f.y+1)=_;rw[zcq (by omega) (by show(0:Int)<s.W;omega) (by omega) (by show f.y+1<(s.H:Int);omega)];have:f.y+1=y:=by omega
   have:(0:Int)=x:=by omega
   simp only[Rs.on];congr 1
  |false=>
   have e1:f.lx=f.x:=by simp[Sp.lx,hpd]
   have e2:f.ly=f.y:=by simp[Sp.ly,hpd]
   rw[if_neg]
   ·show s.on f=s.on ⟨x,y,false,f.pen⟩;rw[←hpd];simp only[Rs.on];congr 1<;>omega
   ·show¬(f.pend||(decide (k=2)&&decide (f.x=(s.W:Int)-1)))=true;rw[hpd];simp;omega
 have hst:∀k:Int,(k=1\/(k=2/\x+1<s.W))->zct (s.on ⟨x,y,false,f.pen⟩) k=s.on (zcJ s f x y k)/\(zcJ s f x y k).In s:=by
  intro k hk;unfold zct zcJ;by_cases hc:(s.W:Int)<=x+k
  ·have hni:¬inG s.W s.H ((x:Int)+k) y=true:=λq=>by have:=zw.1 q;omega
   rw[if_pos (show((s.on ⟨x,y,false,f.pen⟩).W:Int)<=(s.on ⟨x,y,false,f.pen⟩).x+k from hc),if_neg hni];refine⟨?_,⟨by show(0:Int)<=x+k-1;omega,by show(x:Int)+k-1<s.W;omega,by show(0:Int)<=y;omega,by show(y:Int)<s.H;omega,λ_=>by show(x:Int)+k-1=(s.W:Int)-1;omega⟩⟩;simp only[Rs.on];congr 1;omega
  ·have hi:inG s.W s.H ((x:Int)+k) y=true:=zw.2 (by omega);rw[if_neg (show¬((s.on ⟨x,y,false,f.pen⟩).W:Int)<=(s.on ⟨x,y,false,f.pen⟩).x+k from hc),if_pos hi];exact⟨rfl,⟨by show(0:Int)<=x+k;omega,by show(x:Int)+k<s.W;omega,by show(0:Int)<=y;omega,by show(y:Int)<s.H;omega,λq=>by cases q⟩⟩
 rcases ok.wf.part x y hx' hy' with⟨p0,w0⟩|⟨p0,w0⟩|⟨p0,w0⟩
 ·obtain⟨e1,e2⟩:=hst 1 (.inl rfl);rw[w0];refine⟨?_,e2,by decide⟩;unfold zbc;rw[if_neg (by rw[w0];decide)];have ew:ze3 (s.on f).W (s.G x y).r=1:=by unfold ze3;rw[if_neg (by rw[w0];omega),w0]
  have er:zes (s.on f).W (s.G x y).r=(s.G x y).r:=by unfold zes;rw[if_neg (by rw[w0];omega)]
  rw[ew,er,hb 1 (.inl rfl)];have eg:zba (s.on ⟨x,y,false,f.pen⟩) (s.G x y).r=s.on ⟨x,y,false,f.pen⟩:=by
   unfold zba;have:zU s.W s.H s.G x y (s.G x y).r f.pen=s.G:=zk2 (by rw[←hq,←p0]) w0;simp only[Rs.on];rw[this]
  rw[eg,e1]
 ·obtain⟨hh,ht⟩:=ok.wf.head x y hx' hy' p0;obtain⟨e1,e2⟩:=hst 2 (.inr ⟨rfl,hh⟩);rw[w0];refine⟨?_,e2,by decide⟩;unfold zbc;rw[if_neg (by rw[w0];decide)];have ew:ze3 (s.on f).W (s.G x y).r=2:=by unfold ze3;rw[if_neg (by rintro⟨_,q⟩;have:s.W=1:=q;omega),w0]
  have er:zes (s.on f).W (s.G x y).r=(s.G x y).r:=by unfold zes;rw[if_neg (by rintro⟨_,q⟩;have:s.W=1:=q;omega)]
  rw[ew,er,hb 2 (.inr ⟨rfl,hh⟩)];have eg:zba (s.on ⟨x,y,false,f.pen⟩) (s.G x y).r=s.on ⟨x,y,false,f.pen⟩:=by
   unfold zba;have:zU s.W s.H s.G x y (s.G x y).r f.pen=s.G:=zk3 (by rw[←hq,←p0]) (by rw[ht,hq]) hh hy' w0;simp only[Rs.on];rw[this]
  rw[eg,e1]
 ·exact absurd p0 hp
theorem zqy (h:s.Fl) (hf:f.In s) (hn:f.pen.Ok) (gx0:0<=g.x) (gx1:g.x<s.W) (gy0:0<=g.y) (gy1:g.y<s.H):∀st∈zbt s f g,zqx s f g st:=by
 have ok:=h.ok;have w2:=ok.w2;have h2:=ok.h2;have w1:=ok.w1;have fl:=h.on hf hn;have fx0:=hf.x0;have fx1:=hf.x1;have fy0:=hf.y0;have fy1:=hf.y1;intro st hst;simp only[zbt,List.mem_append,List.mem_cons,List.not_mem_nil,or_false] at hst;rcases hst with((((rfl|rfl|rfl)|hst)|hst)|hst)|hst
 ·refine⟨⟨by show(0:Int)<=0;omega,by show(0:Int)<s.W;omega,fy0,fy1,λq=>by cases q⟩,.inl ⟨rfl,?_⟩⟩;rw[zsB fl.B,zcq (s:=s.on f) (x:=0) (y:=(s.on f).y) (by omega) (by show(0:Int)<s.W;omega) fy0 fy1];rfl
 ·have hg:0<=zhT (f.x-1) 0/\zhT (f.x-1) 0<s.W/\zhT (f.x-1) 0=zar (f.x-1) s.W:=by
   unfold zhT zar;by_cases hc:f.x-1<0
   ·rw[if_pos hc,if_pos (by omega)];omega
   ·rw[if_neg hc,if_neg (by omega),if_neg (by omega)];omega
  refine⟨⟨hg.1,hg.2.1,fy0,fy1,λq=>by cases q⟩,.inl ⟨rfl,?_⟩⟩;rw[zsD fl.B];unfold ZS;show({s.on f with x:=zar (f.x-1) s.W,y:=zar f.y s.H,pend:=false}:Rs)=s.on (f.move (zhT (f.x-1) 0) f.y);rw[hg.2.2,zgb fy0 fy1];rfl
 ·exact⟨⟨fx0,fx1,fy0,fy1,hf.pd⟩,.inr ⟨rfl,rfl⟩⟩
 ·split at hst
  ·rename_i hin;obtain⟨_,_,_,b1⟩:=zw.1 hin;rw[List.mem_singleton] at hst;subst hst;refine⟨⟨fx0,fx1,by show(0:Int)<=f.y+1;omega,b1,λq=>by cases q⟩,.inl ⟨rfl,?_⟩⟩;rw[zsC fl.B];unfold zv;rw[if_neg (by show¬f.y=s.bot;rw[h.bot];omega)];show ZS (s.on f) f.x (f.y+1)=_;rw[zcq (s:=s.on f) fx0 fx1 (by omega) b1];rfl
  ·cases hst
 ·split at hst
  ·cases hst
  ·rename_i hne;rw[List.mem_singleton] at hst;subst hst;refine⟨⟨fx0,fx1,gy0,gy1,λq=>by cases q⟩,.inl ⟨rfl,?_⟩⟩;have:=zoy (s:=s.on f) fl.B (y:=g.y) fx0 fx1 fy0 fy1 gy0 gy1 h2 hne;exact this
 ·split at hst
  ·cases hst
  ·rename_i hne;rw[List.mem_singleton] at hst;subst hst;refine⟨⟨gx0,gx1,fy0,fy1,λq=>by cases q⟩,.inl ⟨rfl,?_⟩⟩;have:=zmv (s:=s.on f) fl.B (x:=g.x) fx0 fx1 fy0 fy1 gx0 gx1 w2 hne;exact this
 ·unfold za1 at hst;split at hst
  ·rename_i hin;split at hst
   ·cases hst
   ·rename_i hc;rw[List.mem_singleton] at hst;subst hst;have hc1:(s.G f.lx.toNat f.ly.toNat).p≠2:=λq=>hc (.inl q);have hc2:(s.G f.lx.toNat f.ly.toNat).n=f.pen:=by
     cases q:(s.G f.lx.toNat f.ly.toNat).n.eqB f.pen with
     |true=>exact Pn.eqB_iff.1 q
     |false=>exact absurd (.inr q) hc
    obtain⟨e1,e2,e3⟩:=zoE h hin hc1 hc2;refine⟨e2,.inl ⟨?_,?_⟩⟩
    ·show(zcJ s f _ _ _).pen=_;unfold zcJ;split<;>rfl
    ·show zm _ (zdf _)=_;rw[zgK fl.B e3,e1]
  ·cases hst
end
def wy0:Wy:=⟨[],0,⟨0,0,false,Pn.plain⟩⟩
def gW (l:List Wy) (i:Nat):Wy:=l.getD i wy0
def swL (l:List Wy) (i j:Nat):List Wy:=(l.set i (gW l j)).set j (gW l i)
def upL (l:List Wy) (j:Nat):List Wy:=
 if _h:j≠0/\(gW l j).b.length<(gW l ((j-1)/2)).b.length then upL (swL l ((j-1)/2) j) ((j-1)/2) else l
termination_by j
decreasing_by omega
def zb4 (l:List Wy) (i n:Nat):Nat:=if 2*i+2<n/\(gW l (2*i+2)).b.length<(gW l (2*i+1)).b.length then 2*i+2 else 2*i+1
theorem zk4 (l:List Wy) (i n:Nat) (h:2*i+1<n):zb4 l i n<n/\i<zb4 l i n:=by
 unfold zb4;split<;>omega
def zei (l:List Wy) (i n:Nat):List Wy:=
 if _h:2*i+1<n/\(gW l (zb4 l i n)).b.length<(gW l i).b.length then zei (swL l i (zb4 l i n)) (zb4 l i n) n else l
termination_by n - i
decreasing_by have := zk4 l i n _h.1; omega
theorem zjX {l:List Wy} {i j:Nat} (hi:i<l.length) (hj:j<l.length):List.Perm (swL l i j) l:=by
 unfold swL gW;have ei:l.getD i wy0=l[i]:=by simp[List.getD,hi]
 have ej:l.getD j wy0=l[j]:=by simp[List.getD,hj]
 rw[ei,ej];exact List.set_set_perm hi hj
theorem zc8 (l:List Wy) (i j:Nat):(swL l i j).length=l.length:=by simp[swL]
theorem zsE:∀(j:Nat) (l:List Wy),j<l.length->List.Perm (upL l j) l:=by
 intro j;induction j using Nat.strongRecOn with
 |_ j ih=>
  intro l hj;rw[upL];split
  ·rename_i h;exact(ih _ (by omega) _ (by rw[zc8];omega)).trans (zjX (by omega) hj)
  ·exact List.Perm.refl _
theorem zoF:∀(d:Nat) (l:List Wy) (i n:Nat),n-i=d->n<=l.length->List.Perm (zei l i n) l:=by
 intro d;induction d using Nat.strongRecOn with
 |_ d ih=>
  intro l i n hd hn;rw[zei];split
  ·rename_i h;have hl:=zk4 l i n h.1;exact(ih _ (by omega) _ _ _ rfl (by rw[zc8];exact hn)).trans (zjX (by omega) (by omega))
  ·exact List.Perm.refl _
def ziz (l:List Wy):List Wy:=zei (swL l 0 (l.length-1)) 0 (l.length-1)
def zbF (l:List Wy):Wy:=gW (ziz l) (l.length-1)
def zcN (l:List Wy):List Wy:=(ziz l).take (l.length-1)
def zfe (l:List Wy) (w:Wy):List Wy:=upL (l ++ [w]) l.length
theorem zi3 {l:List Wy} (h:l≠[]):List.Perm (ziz l) l:=by
 have hl:=List.length_pos_iff.2 h;exact(zoF _ _ _ _ rfl (by rw[zc8];omega)).trans (zjX hl (by omega))
theorem zk5 {l:List Wy} (h:l≠[]):List.Perm (zcN l ++ [zbF l]) l:=by
 have hl:=List.length_pos_iff.2 h;have hp:=zi3 h;have hlen:=hp.length_eq;have:zcN l ++ [zbF l]=ziz l:=by
  unfold zcN zbF gW;have e:(ziz l).getD (l.length-1) wy0=(ziz l)[l.length-1]'(by omega):=by simp[List.getD,show l.length-1<(ziz l).length by omega]
  rw[e,←List.take_succ_eq_append_getElem,List.take_of_length_le (by omega)]
 rw[this];exact hp
theorem zhU {l:List Wy} (h:l≠[]):(zcN l).length+1=l.length:=by
 have:=(zk5 h).length_eq;simpa using this
theorem zgh (l:List Wy) (w:Wy):List.Perm (zfe l w) (l ++ [w]):=zsE _ _ (by simp)
theorem zqz (l:List Wy) (w:Wy):(zfe l w).length=l.length+1:=by
 have:=(zgh l w).length_eq;simpa using this
def zaH (w st:Wy):Wy:=⟨w.b++st.b,if w.e.pen.eqB st.e.pen=true then w.k else w.b.length,st.e⟩
def ZB (g:Gl):Wy:=⟨zai g.x g.y,0,⟨g.x,g.y,false,g.pen⟩⟩
def zd8 (s:Rs) (g:Gl):List Wy:=[⟨[],0,s.sp⟩,ZB g]
def zfR (s:Rs) (g:Gl) (w:Wy):List UInt8:=w.b.take w.k++zcF s.pen g.pen++w.b.drop w.k
def zaE (n:Nat) (w:Wy) (sts:List Wy) (o:List Wy):List Wy:=sts.foldl (λo st=>if (zaH w st).b.length<n then zfe o (zaH w st) else o) o
def zeG (kn:List Sp) (p:Sp):Bool:=kn.any (λq=>q.eqB p)
def zdu (s:Rs) (g:Gl):Nat->List Wy->List Sp->List UInt8
 |0,_,_=>[]
 |m+1,o,kn=>
  if g.isAt (zbF o).e=true then zfR s g (zbF o)
  else if zeG kn (zbF o).e=true then zdu s g m (zcN o) kn
  else zdu s g m (zaE (zai g.x g.y).length (zbF o) (zbt s (zbF o).e g) (zcN o)) (kn ++ [(zbF o).e])
def zeH (s:Rs):Nat:=8*(4*(s.H*s.W))+2
def zb5 (s:Rs) (g:Gl):List UInt8:=zdu s g (zeH s) (zd8 s g) []
theorem zoG {kn:List Sp} {p:Sp}:zeG kn p=true↔p∈kn:=by
 simp only[zeG,List.any_eq_true,Sp.eqB_iff];constructor
 ·rintro⟨q,hq,rfl⟩;exact hq
 ·intro h;exact⟨p,h,rfl⟩
structure zjY (s:Rs) (g:Gl) (w:Wy):Prop where
 inn:w.e.In s
 pen:w.e.pen=s.pen\/w.e.pen=g.pen
 k:w.k<=w.b.length
 len:w.b.length<=(zai g.x g.y).length
 p1:w.e.pen=s.pen->zm s w.b=s.on w.e
 p2:w.e.pen=g.pen->zm s (zfR s g w)=s.on w.e
structure Gl.In (g:Gl) (s:Rs):Prop where
 x0:0<=g.x
 x1:g.x<s.W
 y0:0<=g.y
 y1:g.y<s.H
 pen:g.pen.Ok
section
variable {s:Rs} {g:Gl}
theorem zqA {w:Wy} (h:s.pen=g.pen):zfR s g w=w.b:=by
 unfold zfR;rw[h,zoA,List.append_nil,List.take_append_drop]
theorem zqB (h:s.Fl):zjY s g ⟨[],0,s.sp⟩:=by
 refine⟨zvM h.ok,.inl rfl,Nat.le_refl 0,Nat.zero_le _,λ_=>rfl,λe=>?_⟩;rw[zqA e];rfl
theorem zk6 (h:s.Fl) (hg:g.In s):zjY s g (ZB g):=by
 have ok:=h.ok;have e0:=zfQ h.B hg.pen;refine⟨⟨hg.x0,hg.x1,hg.y0,hg.y1,λq=>by cases q⟩,.inr rfl,Nat.zero_le _,Nat.le_refl _,λe=>?_,λ_=>?_⟩
 ·show zm s (zai g.x g.y)=_;rw[zhR h.B hg.x0 hg.x1 hg.y0 hg.y1 ok.w2 ok.h2];have e':g.pen=s.pen:=e;simp only[Rs.on,ZB];rw[e']
 ·show zm s (([]:List UInt8)++zcF s.pen g.pen++zai g.x g.y)=_;rw[List.nil_append,ZU,e0,zhR (s:={s with pen:=g.pen}) h.B hg.x0 hg.x1 hg.y0 hg.y1 ok.w2 ok.h2];rfl
theorem zqC (h:s.Fl) (hg:g.In s) {w:Wy} (hw:zjY s g w):w.e.pen.Ok:=by
 rcases hw.pen with e|e
 ·rw[e];exact h.pen
 ·rw[e];exact hg.pen
theorem zsF (h:s.Fl) (hg:g.In s) {w st:Wy} (hw:zjY s g w) (hs:zqx s w.e g st) (hl:(zaH w st).b.length<(zai g.x g.y).length):zjY s g (zaH w st):=by
 have hn:=zqC h hg hw;by_cases hp:st.e.pen=w.e.pen
 ·have hk:(zaH w st).k=w.k:=by
   show(if w.e.pen.eqB st.e.pen=true then w.k else w.b.length)=w.k;rw[if_pos (Pn.eqB_iff.2 hp.symm)]
  have hf:zm (s.on w.e) st.b=s.on st.e:=by
   rcases hs.how with⟨_,e⟩|⟨e1,e2⟩
   ·exact e
   ·rw[e1,zqq,e2];have:g.pen=w.e.pen:=by rw[←hp,e2];rfl
    rw[this];rfl
  refine⟨hs.inn,by show st.e.pen=_\/st.e.pen=_;rw[hp];exact hw.pen,?_,Nat.le_of_lt hl,λe=>?_,λe=>?_⟩
  ·rw[hk];show w.k<=(w.b++st.b).length;rw[List.length_append];have:=hw.k;omega
  ·show zm s (w.b++st.b)=s.on st.e;rw[ZU,hw.p1 (hp ▸ e),hf]
  ·show zm s (zfR s g (zaH w st))=s.on st.e;have eo:zfR s g (zaH w st)=zfR s g w++st.b:=by
    unfold zfR;rw[hk];show(w.b++st.b).take w.k++zcF s.pen g.pen++(w.b++st.b).drop w.k=_;rw[List.take_append_of_le_length hw.k,List.drop_append_of_le_length hw.k];simp
   rw[eo,ZU,hw.p2 (hp ▸ e),hf]
 ·rcases hs.how with⟨e,_⟩|⟨e1,e2⟩
  ·exact absurd e hp
  ·have eg:st.e.pen=g.pen:=by rw[e2];rfl
   have ew:w.e.pen=s.pen:=by
    rcases hw.pen with q|q
    ·exact q
    ·exact absurd (eg.trans q.symm) hp
   have hk:(zaH w st).k=w.b.length:=by
    show(if w.e.pen.eqB st.e.pen=true then w.k else w.b.length)=_;rw[if_neg (λq=>hp (Pn.eqB_iff.1 q).symm)]
   refine⟨hs.inn,.inr eg,?_,Nat.le_of_lt hl,λe=>?_,λ_=>?_⟩
   ·rw[hk];show w.b.length<=(w.b++st.b).length;rw[List.length_append];omega
   ·exact absurd ((show st.e.pen=s.pen from e).trans ew.symm) hp
   ·show zm s (zfR s g (zaH w st))=s.on st.e;have eo:zfR s g (zaH w st)=w.b++zcF s.pen g.pen:=by
     unfold zfR;rw[hk];show(w.b++st.b).take w.b.length++zcF s.pen g.pen++(w.b++st.b).drop w.b.length=_;rw[e1];simp
    rw[eo,ZU,hw.p1 ew];have e0:zm (s.on w.e) (zcF (s.on w.e).pen g.pen)={s.on w.e with pen:=g.pen}:=zfQ (s:=s.on w.e) h.B hg.pen;have e3:(s.on w.e).pen=s.pen:=ew;rw[e3] at e0;rw[e0,e2];rfl
end
theorem zuo:∀(N:Nat) (l:List Nat),l.Nodup->(∀x∈l,x<N)->l.length<=N:=by
 intro N;induction N with
 |zero=>
  intro l _ h;cases l with
  |nil=>exact Nat.le_refl 0
  |cons a r=>exact absurd (h a (List.mem_cons_self ..)) (by omega)
 |succ n ih=>
  intro l hd h;by_cases hm:n∈l
  ·have:=ih (l.erase n) (hd.erase n) (λx hx=>by
    have h1:=(List.Nodup.mem_erase_iff hd).1 hx;have:=h x h1.2;have:=h1.1;omega)
   rw[List.length_erase_of_mem hm] at this;omega
  ·have:=ih l hd (λx hx=>by
    have:=h x hx;have:x≠n:=λe=>hm (e ▸ hx);omega)
   omega
def idx (s:Rs) (g:Gl) (p:Sp):Nat:=((p.y.toNat*s.W+p.x.toNat)*2+(if p.pend=true then 1 else 0))*2+(if p.pen.eqB g.pen=true then 1 else 0)
section
variable {s:Rs} {g:Gl}
def zhV (s:Rs) (g:Gl) (p:Sp):Prop:=p.In s/\(p.pen=s.pen\/p.pen=g.pen)
theorem zup {p:Sp} (h:zhV s g p):idx s g p<4*(s.H*s.W):=by
 obtain⟨⟨x0,x1,y0,y1,_⟩,_⟩:=h;have:=zau (W:=s.W) (H:=s.H) (x:=p.x.toNat) (y:=p.y.toNat) (by omega) (by omega);unfold idx;split<;>split<;>omega
theorem zsG {p q:Sp} (hp:zhV s g p) (hq:zhV s g q) (e:idx s g p=idx s g q):p=q:=by
 obtain⟨⟨x0,x1,y0,y1,_⟩,hpp⟩:=hp;obtain⟨⟨x0',x1',y0',y1',_⟩,hqp⟩:=hq;unfold idx at e;have e1:p.y.toNat*s.W+p.x.toNat=q.y.toNat*s.W+q.x.toNat:=by
  revert e;generalize p.y.toNat*s.W+p.x.toNat=a;generalize q.y.toNat*s.W+q.x.toNat=b;intro e;split at e<;>split at e<;>split at e<;>split at e<;>omega
 have e2:(if p.pend=true then 1 else 0)=(if q.pend=true then 1 else 0):=by
  rw[e1] at e;split at e<;>split at e<;>split at e<;>split at e<;>(first|rfl|(simp_all;done)|(exfalso;omega))
 have e3:(if p.pen.eqB g.pen=true then 1 else 0)=(if q.pen.eqB g.pen=true then 1 else 0):=by
  rw[e1,e2] at e;omega
 have e4:=zcd (W:=s.W) (x:=p.x.toNat) (y:=p.y.toNat) (x':=q.x.toNat) (y':=q.y.toNat) (by omega) (by omega) e1;have pe:p.pend=q.pend:=by
  cases hp:p.pend<;>cases hq:q.pend<;>simp[hp,hq] at e2 ⊢
 have ne:p.pen=q.pen:=by
  by_cases c1:p.pen.eqB g.pen=true<;>by_cases c2:q.pen.eqB g.pen=true
  ·rw[Pn.eqB_iff.1 c1,Pn.eqB_iff.1 c2]
  ·rw[if_pos c1,if_neg c2] at e3;cases e3
  ·rw[if_neg c1,if_pos c2] at e3;cases e3
  ·rcases hpp with a|a
   ·rcases hqp with b|b
    ·rw[a,b]
    ·exact absurd (Pn.eqB_iff.2 b) c2
   ·exact absurd (Pn.eqB_iff.2 a) c1
 obtain⟨x,y,pd,n⟩:=p;obtain⟨x',y',pd',n'⟩:=q;simp only at *;congr 1<;>omega
theorem zqD {kn:List Sp} (hd:kn.Nodup) (h:∀p∈kn,zhV s g p):kn.length<=4*(s.H*s.W):=by
 have:=zuo (4*(s.H*s.W)) (kn.map (idx s g)) (by
  unfold List.Nodup;rw[List.pairwise_map];exact hd.imp_of_mem (fun {a b} ha hb hne e=>hne (zsG (h a ha) (h b hb) e))) (λx hx=>by
  obtain⟨p,hp,rfl⟩:=List.mem_map.1 hx;exact zup (h p hp))
 simpa using this
structure zc9 (s:Rs) (g:Gl) (o:List Wy) (kn:List Sp):Prop where
 all:∀w∈o,zjY s g w
 st:ZB g∈o
 nd:kn.Nodup
 kn:∀p∈kn,zhV s g p
def zcG (s:Rs) (o:List Wy) (kn:List Sp):Nat:=8*(4*(s.H*s.W)-kn.length)+o.length
theorem zc9.ne {o:List Wy} {kn:List Sp} (h:zc9 s g o kn):o≠[]:=λe=>by
 have:=h.st;rw[e] at this;cases this
theorem zc9.pop {o:List Wy} {kn:List Sp} (h:zc9 s g o kn):zjY s g (zbF o)/\(∀w∈zcN o,zjY s g w)/\(ZB g∈zcN o\/zbF o=ZB g):=by
 have hp:=zk5 h.ne;refine⟨h.all _ (hp.mem_iff.1 (by simp)),λw hw=>h.all _ (hp.mem_iff.1 (by simp[hw])),?_⟩;have:=hp.mem_iff.2 h.st;rcases List.mem_append.1 this with e|e
 ·exact .inl e
 ·exact .inr (List.mem_singleton.1 e).symm
theorem zgL (g:Gl):g.isAt (ZB g).e=true:=by
 unfold Gl.isAt ZB;simp[Sp.lx,Sp.ly,Pn.eqB_iff.2]
theorem zk7 {n:Nat} {w:Wy}:∀(sts o:List Wy) (v:Wy),v∈zaE n w sts o->v∈o\/∃st∈sts,v=zaH w st/\(zaH w st).b.length<n:=by
 intro sts;induction sts with
 |nil=>intro o v h;exact .inl h
 |cons st r ih=>
  intro o v h;have h':v∈zaE n w r (if (zaH w st).b.length<n then zfe o (zaH w st) else o):=h;rcases ih _ v h' with a|⟨u,hu,e⟩
  ·split at a
   ·rename_i hl;have:=(zgh o (zaH w st)).mem_iff.1 a;rcases List.mem_append.1 this with b|b
    ·exact .inl b
    ·exact .inr ⟨st,List.mem_cons_self ..,List.mem_singleton.1 b,hl⟩
   ·exact .inl a
  ·exact .inr ⟨u,List.mem_cons_of_mem _ hu,e⟩
theorem zjZ {n:Nat} {w:Wy}:∀(sts o:List Wy) (v:Wy),v∈o->v∈zaE n w sts o:=by
 intro sts;induction sts with
 |nil=>intro o v h;exact h
 |cons st r ih=>
  intro o v h;refine ih _ v ?_;show v∈(if (zaH w st).b.length<n then zfe o (zaH w st) else o);split
  ·exact(zgh o (zaH w st)).mem_iff.2 (List.mem_append_left _ h)
  ·exact h
theorem zgM {n:Nat} {w:Wy}:∀(sts o:List Wy),(zaE n w sts o).length<=o.length+sts.length:=by
 intro sts;induction sts with
 |nil=>intro o;exact Nat.le_refl _
 |cons st r ih=>
  intro o;have:=ih (if (zaH w st).b.length<n then zfe o (zaH w st) else o);have h1:(if (zaH w st).b.length<n then zfe o (zaH w st) else o).length<=o.length+1:=by
   split
   ·rw[zqz];omega
   ·omega
  show(zaE n w r _).length<=_;simp only[List.length_cons];omega
theorem zc9.known {o:List Wy} {kn:List Sp} (hi:zc9 s g o kn) (hat:g.isAt (zbF o).e=false):zc9 s g (zcN o) kn/\zcG s (zcN o) kn+1=zcG s o kn:=by
 obtain⟨_,h2,h3⟩:=hi.pop;refine⟨⟨h2,?_,hi.nd,hi.kn⟩,?_⟩
 ·rcases h3 with e|e
  ·exact e
  ·rw[e,zgL] at hat;cases hat
 ·have:=zhU hi.ne;unfold zcG;omega
theorem zc9.fresh (h:s.Fl) (hg:g.In s) {o:List Wy} {kn:List Sp} (hi:zc9 s g o kn) (hat:g.isAt (zbF o).e=false) (hk:zeG kn (zbF o).e=false):
 zc9 s g (zaE (zai g.x g.y).length (zbF o) (zbt s (zbF o).e g) (zcN o)) (kn ++ [(zbF o).e])/\zcG s (zaE (zai g.x g.y).length (zbF o) (zbt s (zbF o).e g) (zcN o)) (kn ++ [(zbF o).e])<zcG s o kn:=by
 obtain⟨h1,h2,h3⟩:=hi.pop;have hnk:(zbF o).e ∉ kn:=λq=>by rw[zoG.2 q] at hk;cases hk
 have hnd:(kn ++ [(zbF o).e]).Nodup:=by
  rw[List.nodup_append];refine⟨hi.nd,by simp,λa ha b hb e=>?_⟩;rw[List.mem_singleton.1 hb] at e;exact hnk (e ▸ ha)
 have hkn:∀p∈kn ++ [(zbF o).e],zhV s g p:=λp hp=>by
  rcases List.mem_append.1 hp with e|e
  ·exact hi.kn p e
  ·rw[List.mem_singleton.1 e];exact⟨h1.inn,h1.pen⟩
 refine⟨⟨λw hw=>?_,zjZ _ _ _ ?_,hnd,hkn⟩,?_⟩
 ·rcases zk7 _ _ _ hw with e|⟨st,hst,rfl,hl⟩
  ·exact h2 w e
  ·exact zsF h hg h1 (zqy h h1.inn (zqC h hg h1) hg.x0 hg.x1 hg.y0 hg.y1 st hst) hl
 ·rcases h3 with e|e
  ·exact e
  ·rw[e,zgL] at hat;cases hat
 ·have a1:=zhU hi.ne;have a2:=zgM (n:=(zai g.x g.y).length) (w:=zbF o) (zbt s (zbF o).e g) (zcN o);have a3:=zi2 s (zbF o).e g;have a4:=zqD hnd hkn;simp only[List.length_append,List.length_cons,List.length_nil] at a4;unfold zcG;simp only[List.length_append,List.length_cons,List.length_nil];omega
theorem zoH (h:s.Fl) (hg:g.In s):∀(m:Nat) (o:List Wy) (kn:List Sp),zc9 s g o kn->zcG s o kn<=m->∃w,zjY s g w/\g.isAt w.e=true/\zdu s g m o kn=zfR s g w:=by
 intro m;induction m with
 |zero=>
  intro o kn hi hm;have:0<o.length:=List.length_pos_iff.2 hi.ne;unfold zcG at hm;omega
 |succ m ih=>
  intro o kn hi hm;unfold zdu;cases hat:g.isAt (zbF o).e with
  |true=>rw[if_pos rfl];exact⟨_,hi.pop.1,hat,rfl⟩
  |false=>
   rw[if_neg (by decide)];cases hk:zeG kn (zbF o).e with
   |true=>
    rw[if_pos rfl];obtain⟨i1,i2⟩:=hi.known hat;exact ih _ _ i1 (by omega)
   |false=>
    rw[if_neg (by decide)];obtain⟨i1,i2⟩:=hi.fresh h hg hat hk;exact ih _ _ i1 (by omega)
theorem zgi (h:s.Fl) (hg:g.In s):zc9 s g (zd8 s g) []/\zcG s (zd8 s g) []<=zeH s:=by
 refine⟨⟨λw hw=>?_,?_,List.nodup_nil,λp hp=>by cases hp⟩,?_⟩
 ·simp only[zd8,List.mem_cons,List.not_mem_nil,or_false] at hw;rcases hw with rfl|rfl
  ·exact zqB h
  ·exact zk6 h hg
 ·simp[zd8]
 ·simp[zcG,zd8,zeH]
theorem zdo (h:s.Fl) (hg:g.In s):∃p:Sp,zm s (zb5 s g)=s.on p/\p.In s/\g.isAt p=true/\(zb5 s g).length<=28:=by
 obtain⟨i1,i2⟩:=zgi h hg;obtain⟨w,hw,hat,e⟩:=zoH h hg _ _ _ i1 i2;have hn:w.e.pen=g.pen:=by
  unfold Gl.isAt at hat;split at hat
  ·cases hat
  ·simp only[Bool.and_eq_true] at hat;exact Pn.eqB_iff.1 hat.2
 unfold zb5;rw[e];refine⟨w.e,hw.p2 hn,hw.inn,hat,?_⟩;have a1:=zk1 s.pen hg.pen;have a2:=hw.len;have a3:(zai g.x g.y).length<=8:=zgc (by have:=hg.x1;have:=h.ok.w2;omega) (by have:=hg.y1;have:=h.ok.h2;omega);have a4:=hw.k;simp only[zfR,List.length_append,List.length_take,List.length_drop];omega
end
def zck (p:Nat->Bool):Nat->Nat->Nat
 |0,_=>0
 |m+1,i=>if p i=true then zck p m (i+1)+1 else 0
theorem zmx (p:Nat->Bool):∀m i,zck p m i<=m:=by
 intro m;induction m with
 |zero=>intro i;exact Nat.le_refl 0
 |succ m ih=>
  intro i;unfold zck;split
  ·have:=ih (i+1);omega
  ·omega
theorem zsH (p:Nat->Bool):∀m i j,i<=j->j<i+zck p m i->p j=true:=by
 intro m;induction m with
 |zero=>intro i j h1 h2;simp[zck] at h2;omega
 |succ m ih=>
  intro i j h1 h2;unfold zck at h2;split at h2
  ·rename_i hp;by_cases e:j=i
   ·rw[e];exact hp
   ·exact ih (i+1) j (by omega) (by omega)
  ·omega
def zaK (P:Nat->Nat->zn) (W x y:Nat):Nat:=zck (λi=>(P i y).eqB (P x y)) (W-x) x
def zdv (P:Nat->Nat->zn) (W H y:Nat) (c:zn):Bool:=(List.range (H-y)).all (λi=>(P 0 (y+i)).eqB c&&decide (W<=zaK P W 0 (y+i)))
def ZN (s:Rs) (P:Nat->Nat->zn) (x y:Nat):Bool:=!(s.G x y).eqB (P x y)
def zdL (s:Rs) (P:Nat->Nat->zn) (x y:Nat):Nat->Nat
 |0=>0
 |1=>1
 |n+2=>if ZN s P ((x+(n+1))%s.W) (y+(x+(n+1))/s.W)=true then n+2 else zdL s P x y (n+1)
def zi4 (c:zn):zn:=blk ⟨0,c.n.b,false,false,false⟩
def ze5 (P:Nat->Nat->zn) (W H x y:Nat):List UInt8 × Nat:=
 if x+zaK P W x y<W then(zaR 88 [zb9 (zaK P W x y)],zaK P W x y)
 else if zdv P W H (y+1) (P x y)=true then(zaR 74 [],zaK P W x y+W*(H-(y+1))) else(zaR 75 [],zaK P W x y)
def zaS (s:Rs) (P:Nat->Nat->zn) (x y:Nat):List UInt8:=
 if (P x y).eqB (zi4 (P x y))=false then[]
 else if (ze5 P s.W s.H x y).1.length<zdL s P x y (ze5 P s.W s.H x y).2 then(ze5 P s.W s.H x y).1 else[]
def zaT (s:Rs) (b:Int):Pn:={s.pen with b:=b}
def zbu (s:Rs) (P:Nat->Nat->zn) (x y:Nat):List UInt8:=
 if zaS s P x y=[] then zb5 s ⟨x,y,(P x y).n,true⟩++zdf (P x y).r
 else zb5 s ⟨x,y,zaT s (P x y).n.b,false⟩++zaS s P x y
def zgj (P:Nat->Nat->zn) (st:Rs × List UInt8) (x y:Nat):Rs × List UInt8:=
 if ZN st.1 P x y=true then(zm st.1 (zbu st.1 P x y),st.2++zbu st.1 P x y) else st
def zaw (P:Nat->Nat->zn) (W:Nat) (st:Rs × List UInt8):Nat->Rs × List UInt8
 |0=>st
 |i+1=>zgj P (zaw P W st i) (i%W) (i/W)
def zad (s:Rs) (n:Int):List UInt8:=zcF s.pen (zaT s 0)++ZA n 83 84
def zgk (s:Rs) (n:Int):Rs × List UInt8:=if n=0 then(s,[]) else(zm s (zad s n),zad s n)
def ZV (s:Rs) (P:Nat->Nat->zn) (n:Int):List UInt8:=(zaw P s.W (zgk s n) (s.H*s.W)).2
def zcB (s:Rs) (x:Nat) (y:Int):zn:=if inG s.W s.H x y=true then s.G x y.toNat else blk Pn.plain
def za2 (p:Nat->Bool):Nat->Nat
 |0=>0
 |i+1=>za2 p i+(if p i=true then 1 else 0)
def ZC (s:Rs) (P:Nat->Nat->zn) (n:Int):Nat:=za2 (λi=>!(zcB s (i%s.W) ((i/s.W:Nat)+n)).eqB (P (i%s.W) (i/s.W))) (s.H*s.W)
def zbn (s:Rs) (P:Nat->Nat->zn) (st:Int × Nat) (n:Int):Int × Nat:=if ZC s P n<st.2 then(n,ZC s P n) else st
def zay (s:Rs) (P:Nat->Nat->zn):Nat->Int × Nat
 |0=>(0,ZC s P 0)
 |l+1=>zbn s P (zbn s P (zay s P l) ((l+1:Nat):Int)) (-((l+1:Nat):Int))
def zdw (s:Rs) (P:Nat->Nat->zn):List UInt8:=
 if (zay s P s.H).1≠0/\(ZV s P (zay s P s.H).1).length<(ZV s P 0).length then ZV s P (zay s P s.H).1 else ZV s P 0
section
variable {s:Rs} {P:Nat->Nat->zn}
theorem zqE (W x y:Nat):zaK P W x y<=W-x:=zmx _ _ _
theorem zfS {W x y j:Nat} (h1:x<=j) (h2:j<x+zaK P W x y):P j y=P x y:=zn.eqB_iff.1 (zsH _ _ _ _ h1 h2)
theorem zoI {W x y:Nat} (h:x<W):1<=zaK P W x y:=by
 unfold zaK;obtain⟨m,e⟩:∃m,W-x=m+1:=⟨W-x-1,by omega⟩;rw[e];unfold zck;rw[if_pos (zn.eqB_iff.2 rfl)];omega
theorem zqF {W H y:Nat} {c:zn} (h:zdv P W H y c=true) {a b:Nat} (h1:y<=b) (h2:b<H) (ha:a<W):P a b=c:=by
 simp only[zdv,List.all_eq_true,List.mem_range,Bool.and_eq_true,decide_eq_true_eq] at h;obtain⟨e1,e2⟩:=h (b-y) (by omega);have eb:y+(b-y)=b:=by omega
 rw[eb] at e1 e2;rw[zfS (P:=P) (W:=W) (x:=0) (y:=b) (j:=a) (by omega) (by omega)];exact zn.eqB_iff.1 e1
theorem zd9 (p:Nat->Bool) (n:Nat):za2 p n<=n:=by
 induction n with
 |zero=>exact Nat.le_refl 0
 |succ n ih=>unfold za2;split<;>omega
theorem znx (l:Nat):(zay s P l).2=ZC s P (zay s P l).1/\(-(l:Int)<=(zay s P l).1/\(zay s P l).1<=l)/\(∀n:Int,-(l:Int)<=n->n<=l->(zay s P l).2<=ZC s P n):=by
 have hs:∀(st:Int × Nat) (n:Int),st.2=ZC s P st.1->(zbn s P st n).2=ZC s P (zbn s P st n).1/\((zbn s P st n).1=st.1\/(zbn s P st n).1=n)/\(zbn s P st n).2<=st.2/\(zbn s P st n).2<=ZC s P n:=by
  intro st n h;unfold zbn;split
  ·exact⟨rfl,.inr rfl,by simp only;omega,Nat.le_refl _⟩
  ·exact⟨h,.inl rfl,Nat.le_refl _,by omega⟩
 induction l with
 |zero=>
  refine⟨rfl,⟨by show -((0:Nat):Int)<=0;omega,by show(0:Int)<=((0:Nat):Int);omega⟩,λn h1 h2=>?_⟩;obtain rfl:n=0:=by omega
  exact Nat.le_refl _
 |succ l ih=>
  obtain⟨i1,⟨i2,i3⟩,i4⟩:=ih;obtain⟨a1,a2,a3,a4⟩:=hs _ ((l+1:Nat):Int) i1;obtain⟨b1,b2,b3,b4⟩:=hs _ (-((l+1:Nat):Int)) a1;show(zbn s P (zbn s P (zay s P l) ((l+1:Nat):Int)) (-((l+1:Nat):Int))).2=_/\_;refine⟨b1,?_,?_⟩
  ·show -((l+1:Nat):Int)<=(zbn s P (zbn s P (zay s P l) ((l+1:Nat):Int)) (-((l+1:Nat):Int))).1/\(zbn s P (zbn s P (zay s P l) ((l+1:Nat):Int)) (-((l+1:Nat):Int))).1<=((l+1:Nat):Int);rcases b2 with e|e
   ·rw[e];rcases a2 with e'|e'
    ·rw[e'];omega
    ·rw[e'];omega
   ·rw[e];omega
  ·intro n h1 h2;show(zbn s P (zbn s P (zay s P l) ((l+1:Nat):Int)) (-((l+1:Nat):Int))).2<=_;by_cases e1:n=((l+1:Nat):Int)
   ·rw[e1];omega
   ·by_cases e2:n = -((l+1:Nat):Int)
    ·rw[e2];omega
    ·have:=i4 n (by omega) (by omega);omega
theorem zoJ (h:ZC s P 0=0) (l:Nat):zay s P l=(0,0):=by
 induction l with
 |zero=>unfold zay;rw[h]
 |succ l ih=>
  unfold zay;rw[ih];have:∀n,zbn s P (0,0) n=(0,0):=λn=>by unfold zbn;rw[if_neg (by simp)]
  rw[this,this]
end
end
end Go.Proofs.YtjlfibhbfdckpaaGreatDoor
