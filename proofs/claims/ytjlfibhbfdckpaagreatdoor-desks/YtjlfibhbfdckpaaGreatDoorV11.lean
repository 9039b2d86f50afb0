import Derived.Test.YtjlfibhbfdckpaaGreatDoorV06
import Derived.Test.YtjlfibhbfdckpaaGreatDoorV10
namespace Go.Proofs.YtjlfibhbfdckpaaGreatDoor
set_option maxHeartbeats 64000000
set_option maxRecDepth 100000
section
open Go.RowKit
def zbn (s:Rs):Rs:={s with odd:=wrap64 (s.odd+1)}
def Zu (n:Int):Int:=if n=0 then 1 else n
def zb9 (H:Nat) (k:Int):Int:=if k=0\/(H:Int)<k then H else k
def zaO (s:Rs) (n k:Int):Rs:=if n<zb9 s.H k\/(s.H=1/\n=1) then ZQ {s with top:=n-1,bot:=zb9 s.H k-1} 0 0 else s
def zdf (s:Rs) (l:List Int):Rs:={s with pen:=l.foldl zdb s.pen}
def zJ (s:Rs) (l:List Int) (last:Int):Rs:=
 let first:=l.getD 0 0
 let second:=l.getD 1 0;let n:=Zu first
 if last=65 then ZQ s s.x (s.y-n) else if last=66 then ZQ s s.x (s.y+n) else if last=67 then ZQ s (s.x+n) s.y else if last=68 then ZQ s (s.x-n) s.y
 else if last=72 then ZQ s (Zu second-1) (n-1) else if last=75 then zbS s first false else if last=74 then zbS s first true
 else if last=88 then {s with G:=wrt s.G (rg s.x (s.x+n) s.y.toNat) (λ_ _=>blk (zS s))}
 else if last=83 then {s with G:=zo s.top s.bot n (zS s) s.G} else if last=84 then {s with G:=zo s.top s.bot (-n) (zS s) s.G}
 else if last=114 then zaO s n second else if last=109 then zdf s (zz l) else zbn s
def ze2 (s:Rs) (b:ByteArray) (last:Int):Rs:=match zel b with
 |none=>zbn s
 |some l=>if l.length<=8 then zJ s l last else zbn s
end
section
def zw (s:Rs) (c:UInt8):Rs:=
 if (c.toNat:Int)=13 then ZQ s 0 s.y else if (c.toNat:Int)=10 then zt s else if (c.toNat:Int)=8 then ZQ s (s.x-1) s.y
 else if (c.toNat:Int)=27 then {s with B:=⟨#[27]⟩} else if 32<=(c.toNat:Int)/\(c.toNat:Int)<=126 then zba s c.toNat
 else if 0<zQ c.toNat then {s with B:=⟨#[c]⟩} else zbn s
end
section
open Wd (wd)
theorem Rs.Ok.cong {s t:Rs} (h:s.Ok) (hW:t.W=s.W) (hH:t.H=s.H) (hx:t.x=s.x) (hy:t.y=s.y) (hp:t.pend=s.pend) (ht:t.top=s.top) (hb:t.bot=s.bot) (hG:t.G=s.G):t.Ok:=
 ⟨by rw[hW];exact h.w1,by rw[hW];exact h.w2,by rw[hH];exact h.h1,by rw[hH];exact h.h2,by rw[hx];exact h.x0,by rw[hx,hW];exact h.x1,by rw[hy];exact h.y0,by rw[hy,hH];exact h.y1,by rw[ht];exact h.t0,by rw[ht,hb];exact h.tb,by rw[hb,hH];exact h.b1,by rw[hp,hx,hW];exact h.pd,by rw[hW,hH,hG];exact h.wf⟩
theorem Rs.Ok.odd {s:Rs} (h:s.Ok):(zbn s).Ok:=h.cong rfl rfl rfl rfl rfl rfl rfl rfl
theorem Rs.Ok.setB {s:Rs} (h:s.Ok) (b:ByteArray):Rs.Ok {s with B:=b}:=h.cong rfl rfl rfl rfl rfl rfl rfl rfl
theorem Rs.Ok.cells {s:Rs} (h:s.Ok) {G:Nat->Nat->zk} (hG:Wf s.W s.H G):Rs.Ok {s with G:=G} :=
 ⟨h.w1,h.w2,h.h1,h.h2,h.x0,h.x1,h.y0,h.y1,h.t0,h.tb,h.b1,h.pd,hG⟩
theorem zvs (s:Rs):(zt s).W=s.W:=by unfold zt;split<;>rfl
theorem zpF (s:Rs) (k:Int):(zaa s k).W=s.W:=by
 unfold zaa;split
 ·exact zvs _
 ·rfl
theorem znc (s:Rs):(zt s).pend=false:=by unfold zt;split<;>rfl
theorem zvt (s:Rs):(zt s).x=s.x\/(zt s).x=zap s.x s.W:=by
 unfold zt;split
 ·exact .inl rfl
 ·exact .inr rfl
theorem zkv {s:Rs} (h:s.Ok) (k:Int) (hk:k=1\/(k=2/\s.W≠1)):(zaa s k).pend=false/\(zaa s k).x+k<=s.W:=by
 have w1:=h.w1;unfold zaa;cases hw:zb8 s k with
 |true=>
  rw[if_pos rfl];refine⟨znc _,?_⟩;have hx:(zt {s with x:=0}).x=0:=by
   rcases zvt {s with x:=0} with e|e
   ·exact e
   ·rw[e];show zap 0 s.W=0;unfold zap;rw[if_neg (by omega),if_neg (by omega)]
  rw[hx];omega
 |false=>
  rw[if_neg (by decide)];simp[zb8] at hw;refine⟨hw.1,?_⟩;have:=h.x1;rcases hk with rfl|⟨rfl,_⟩
  ·omega
  ·have:=hw.2 rfl;omega
theorem Rs.Ok.put {s:Rs} (h:s.Ok) (r:Int):(zba s r).Ok:=by
 unfold zba;split
 ·exact h.cong rfl rfl rfl rfl rfl rfl rfl rfl
 ·rename_i hr;have hkr:(ze1 s.W r=1/\wd (zeq s.W r)=1)\/(ze1 s.W r=2/\wd (zeq s.W r)=2/\s.W≠1):=by
   unfold ze1 zeq;by_cases c:wd r=2/\s.W=1
   ·rw[if_pos c,if_pos c];exact .inl ⟨rfl,ze6⟩
   ·rw[if_neg c,if_neg c];rcases Wd.wd_cases r with q|q|q
    ·exact absurd q hr
    ·exact .inl ⟨q,q⟩
    ·exact .inr ⟨q,q,λe=>c ⟨q,e⟩⟩
  generalize ze1 s.W r=k at *;generalize zeq s.W r=r' at *;have hb:=h.broken k;have hf:=zkv h k (by omega);have hW:=zpF s k;generalize zaa s k=t at *;rw[←hW] at hf;have x0:=hb.x0;have x1:=hb.x1;have y0:=hb.y0;have y1:=hb.y1;obtain⟨x,hx⟩:=Int.eq_ofNat_of_zero_le x0;obtain⟨y,hy⟩:=Int.eq_ofNat_of_zero_le y0;have hwf:Wf t.W t.H (zR t.W t.H t.G t.x t.y r' t.pen):=by
   rw[hx,hy];rcases hkr with⟨rfl,q⟩|⟨rfl,q,_⟩
   ·exact(hb.wf.wrWhole (P:=pt x y) (v:=λ_ _=>⟨r',0,t.pen⟩) (λ_ _ _ _ _=>⟨rfl,q⟩)).congr (zdT hb.wf (by omega) (by omega) r' t.pen q).symm
   ·exact(hb.wf.wide (x:=x) (y:=y) (by omega) r' t.pen q).congr (zcS hb.wf (by omega) (by omega) r' t.pen q).symm
  have hw:(za8 t r').Ok:=hb.cells hwf;unfold zcr;split
  ·exact⟨hw.w1,hw.w2,hw.h1,hw.h2,by have:=hw.w1;show(0:Int)<=(t.W:Int)-1;have:1<=t.W:=this;omega,by show(t.W:Int)-1<t.W;omega,hw.y0,hw.y1,hw.t0,hw.tb,hw.b1,λ_=>rfl,hw.wf⟩
  ·rename_i hn;have hn':¬(t.W:Int)<=t.x+k:=hn;exact⟨hw.w1,hw.w2,hw.h1,hw.h2,by show(0:Int)<=t.x+k;omega,by show t.x+k<(t.W:Int);omega,hw.y0,hw.y1,hw.t0,hw.tb,hw.b1,(λq=>by
    have:t.pend=true:=q;rw[hf.1] at this;cases this),hw.wf⟩
theorem Rs.Ok.margins {s:Rs} (h:s.Ok) (n k:Int) (hn:1<=n) (hk:0<=k):(zaO s n k).Ok:=by
 unfold zaO;split
 ·rename_i hc;have h1:=h.h1;have a:=zbJ 0 s.W h.w1;have b:=zbJ 0 s.H h.h1;have hl:zb9 s.H k<=s.H/\1<=zb9 s.H k:=by
   unfold zb9;split
   ·omega
   ·omega
  exact⟨h.w1,h.w2,h.h1,h.h2,a.1,a.2,b.1,b.2,by show(0:Int)<=n-1;omega,by show n-1<=zb9 s.H k-1;omega,by show zb9 s.H k-1<s.H;omega,(λq=>by cases q),h.wf⟩
 ·exact h
theorem Rs.Ok.done {s:Rs} (h:s.Ok) (l:List Int) (hs:zaV l) (last:Int):(zJ s l last).Ok:=by
 have n1:1<=Zu (l.getD 0 0):=by
  have:=(hs 0).1;unfold Zu;split<;>omega
 unfold zJ;simp only;by_cases c1:last=65
 ·rw[if_pos c1];exact h.goes _ _
 rw[if_neg c1];by_cases c2:last=66
 ·rw[if_pos c2];exact h.goes _ _
 rw[if_neg c2];by_cases c3:last=67
 ·rw[if_pos c3];exact h.goes _ _
 rw[if_neg c3];by_cases c4:last=68
 ·rw[if_pos c4];exact h.goes _ _
 rw[if_neg c4];by_cases c5:last=72
 ·rw[if_pos c5];exact h.goes _ _
 rw[if_neg c5];by_cases c6:last=75
 ·rw[if_pos c6];exact h.era _ _
 rw[if_neg c6];by_cases c7:last=74
 ·rw[if_pos c7];exact h.era _ _
 rw[if_neg c7];by_cases c8:last=88
 ·rw[if_pos c8];exact h.cells (h.wf.blk _ _)
 rw[if_neg c8];by_cases c9:last=83
 ·rw[if_pos c9];exact zf3 h _ _
 rw[if_neg c9];by_cases c10:last=84
 ·rw[if_pos c10];exact zf3 h _ _
 rw[if_neg c10];by_cases c11:last=114
 ·rw[if_pos c11];exact h.margins _ _ n1 (hs 1).1
 rw[if_neg c11];by_cases c12:last=109
 ·rw[if_pos c12];exact h.cong rfl rfl rfl rfl rfl rfl rfl rfl
 rw[if_neg c12];exact h.odd
theorem ziv {l k:List Int} (h:zaV l) (c:Int) (e:Z2 l c=some k):zaV k:=by
 unfold Z2 at e;split at e
 ·cases e;exact zfi (zcu h)
 ·split at e
  ·rename_i hc;cases e;have:=(zcu h) ((zz l).length-1);have h1:0<=zbh (zz l):=this.1;refine zeT (zcu h) _ _ ?_ ?_
   ·unfold zf4;split<;>omega
   ·unfold zf4;split<;>omega
  ·cases e
theorem zdW (b:List UInt8) (l k:List Int) (h:zaV l) (e:Zm b l=some k):zaV k:=by
 induction b generalizing l with
 |nil=>cases e;exact h
 |cons c r ih=>
  simp only[Zm] at e;cases hs:Z2 l c.toNat with
  |none=>rw[hs] at e;cases e
  |some m=>rw[hs] at e;exact ih m (ziv h _ hs) e
theorem Rs.Ok.seq {s:Rs} (h:s.Ok) (b:ByteArray) (last:Int):(ze2 s b last).Ok:=by
 unfold ze2;cases hn:zel b with
 |none=>exact h.odd
 |some l=>
  simp only;split
  ·exact h.done l (zdW _ _ _ zcP hn) last
  ·exact h.odd
theorem Rs.Ok.ground {s:Rs} (h:s.Ok) (c:UInt8):(zw s c).Ok:=by
 unfold zw;split
 ·exact h.goes _ _
 ·split
  ·exact h.lf
  ·split
   ·exact h.goes _ _
   ·split
    ·exact h.setB _
    ·split
     ·exact h.put _
     ·split
      ·exact h.setB _
      ·exact h.odd
end
section
def zbc (s:Rs) (a:UInt8) (l:List UInt8) (c:UInt8):Rs:=
 if zq (a::l) c.toNat=false then zw (zbn {s with B:=⟨#[]⟩}) c
 else if zQ a.toNat=((l.length+2:Nat):Int) then zba {s with B:=⟨#[]⟩} (Zn (a::l ++ [c])) else {s with B:=⟨(a::l ++ [c]).toArray⟩}
def ziw (s:Rs) (c:UInt8):Rs:=
 if (c.toNat:Int)=91 then {s with B:=⟨#[27,91]⟩} else if (c.toNat:Int)=27 then zbn s else zbn {s with B:=⟨#[]⟩}
def zbW (s:Rs) (l:List UInt8) (c:UInt8):Rs:=
 if (c.toNat:Int)=27 then zbn {s with B:=⟨#[27]⟩} else if 64<=(c.toNat:Int)/\(c.toNat:Int)<=126 then ze2 {s with B:=⟨#[]⟩} ⟨l.toArray⟩ c.toNat
 else {s with B:=⟨(27::91::l ++ [c]).toArray⟩}
def za3 (s:Rs) (c:UInt8):Rs:=match s.B.data.toList with
 |[]=>zw s c
 |a::l=>if a=27 then(match l with
  |[]=>ziw s c
  |_::r=>zbW s r c) else zbc s a l c
def BOk (b:ByteArray):Prop:=b=⟨#[]⟩\/b=⟨#[27]⟩\/(∃l:List UInt8,b=⟨(27::91::l).toArray⟩)
 ∨ (∃a:UInt8,b=⟨#[a]⟩/\194<=a.toNat/\a.toNat<=244)\/(∃a b':UInt8,b=⟨#[a,b']⟩/\224<=a.toNat/\a.toNat<=244/\128<=b'.toNat/\b'.toNat<=191)
 ∨ (∃a b' d:UInt8,b=⟨#[a,b',d]⟩/\240<=a.toNat/\a.toNat<=244/\128<=b'.toNat/\b'.toNat<=191/\128<=d.toNat/\d.toNat<=191)
theorem zcm:BOk ⟨#[]⟩:=.inl rfl
theorem zg6 (s:Rs) (x y:Int):(ZQ s x y).B=s.B:=rfl
theorem zrW (s:Rs):(zt s).B=s.B:=by unfold zt;split<;>rfl
theorem zgy (s:Rs) (r:Int):(zba s r).B=s.B:=by
 unfold zba;split
 ·rfl
 ·have hb:∀k,(zaa s k).B=s.B:=λk=>by
   unfold zaa;split
   ·rw[zrW]
   ·rfl
  have hst:∀(t:Rs) k,(zcr t k).B=t.B:=λt k=>by unfold zcr;split<;>rfl
  rw[hst];exact hb _
theorem zpG (s:Rs) (l:List Int) (last:Int):(zJ s l last).B=s.B:=by
 unfold zJ;simp only;by_cases c0:last=65
 ·rw[if_pos c0];rfl
 rw[if_neg c0];by_cases c1:last=66
 ·rw[if_pos c1];rfl
 rw[if_neg c1];by_cases c2:last=67
 ·rw[if_pos c2];rfl
 rw[if_neg c2];by_cases c3:last=68
 ·rw[if_pos c3];rfl
 rw[if_neg c3];by_cases c4:last=72
 ·rw[if_pos c4];rfl
 rw[if_neg c4];by_cases c5:last=75
 ·rw[if_pos c5];rfl
 rw[if_neg c5];by_cases c6:last=74
 ·rw[if_pos c6];rfl
 rw[if_neg c6];by_cases c7:last=88
 ·rw[if_pos c7]
 rw[if_neg c7];by_cases c8:last=83
 ·rw[if_pos c8]
 rw[if_neg c8];by_cases c9:last=84
 ·rw[if_pos c9]
 rw[if_neg c9];by_cases c10:last=114
 ·rw[if_pos c10];unfold zaO;split<;>rfl
 rw[if_neg c10];by_cases c11:last=109
 ·rw[if_pos c11];rfl
 rw[if_neg c11];rfl
theorem ztw (s:Rs) (b:ByteArray) (last:Int):(ze2 s b last).B=s.B:=by
 unfold ze2;split
 ·rfl
 ·split
  ·exact zpG _ _ _
  ·rfl
theorem zkw {s:Rs} (hB:s.B=⟨#[]⟩) (c:UInt8):BOk (zw s c).B:=by
 unfold zw;split
 ·rw[zg6,hB];exact zcm
 ·split
  ·rw[zrW,hB];exact zcm
  ·split
   ·rw[zg6,hB];exact zcm
   ·split
    ·exact .inr (.inl rfl)
    ·split
     ·rw[zgy,hB];exact zcm
     ·split
      ·rename_i hl;refine .inr (.inr (.inr (.inl ⟨c,rfl,?_⟩)));unfold zQ at hl;split at hl
       ·omega
       ·split at hl
        ·omega
        ·split at hl
         ·omega
         ·omega
      ·show BOk s.B;rw[hB];exact zcm
theorem zg7 (a:Int):128<=zbb a:=by
 unfold zbb;split
 ·omega
 ·split<;>omega
theorem zfC (a:Int):Z6 a<=191:=by
 unfold Z6;split
 ·omega
 ·split<;>omega
theorem zdy {l:List UInt8} {c:UInt8} (h:zq l c.toNat=true):128<=c.toNat/\c.toNat<=191:=by
 unfold zq at h;split at h
 ·rename_i a;have h1:=zg7 a.toNat;have h2:=zfC a.toNat;simp at h;omega
 ·simp at h;omega
theorem Zk (a:Int):(zQ a=2/\194<=a/\a<=223)\/(zQ a=3/\224<=a/\a<=239)\/(zQ a=4/\240<=a/\a<=244)\/(zQ a=0/\(a<194\/244<a)):=by
 unfold zQ;by_cases h1:194<=a/\a<=223
 ·rw[if_pos h1];exact .inl ⟨rfl,h1⟩
 ·rw[if_neg h1];by_cases h2:224<=a/\a<=239
  ·rw[if_pos h2];exact .inr (.inl ⟨rfl,h2⟩)
  ·rw[if_neg h2];by_cases h3:240<=a/\a<=244
   ·rw[if_pos h3];exact .inr (.inr (.inl ⟨rfl,h3⟩))
   ·rw[if_neg h3];exact .inr (.inr (.inr ⟨rfl,by omega⟩))
theorem zpH {s:Rs} (a:UInt8) (l:List UInt8) (c:UInt8) (hmore:zq (a::l) c.toNat=true->zQ a.toNat≠((l.length+2:Nat):Int)->BOk ⟨(a::l ++ [c]).toArray⟩):BOk (zbc s a l c).B:=by
 unfold zbc;split
 ·exact zkw rfl c
 ·rename_i hg;split
  ·rw[zgy];exact zcm
  ·exact hmore (by simpa using hg) (by assumption)
theorem ztx {s:Rs} (h:BOk s.B) (c:UInt8):BOk (za3 s c).B:=by
 unfold za3;rcases h with e|e|⟨l,e⟩|⟨a,e,a1,a2⟩|⟨a,b,e,a1,a2,b1,b2⟩|⟨a,b,d,e,a1,a2,b1,b2,d1,d2⟩
 ·rw[e];exact zkw e c
 ·rw[e];show BOk (ziw s c).B;unfold ziw;split
  ·exact .inr (.inr (.inl ⟨[],rfl⟩))
  ·split
   ·show BOk s.B;rw[e];exact .inr (.inl rfl)
   ·exact zcm
 ·rw[e];show BOk (zbW s l c).B;unfold zbW;split
  ·exact .inr (.inl rfl)
  ·split
   ·rw[ztw];exact zcm
   ·exact .inr (.inr (.inl ⟨l ++ [c],rfl⟩))
 ·rw[e];have hne:a≠27:=λq=>by rw[q] at a1;exact absurd a1 (by decide)
  show BOk (if a=27 then _ else zbc s a [] c).B;rw[if_neg hne];refine zpH a [] c (λhg hl=>?_);have:=zdy hg;refine .inr (.inr (.inr (.inr (.inl ⟨a,c,rfl,?_⟩))));rcases Zk a.toNat with q|q|q|q
  ·exact absurd q.1 hl
  all_goals omega
 ·rw[e];have hne:a≠27:=λq=>by rw[q] at a1;exact absurd a1 (by decide)
  show BOk (if a=27 then _ else zbc s a [b] c).B;rw[if_neg hne];refine zpH a [b] c (λhg hl=>?_);have:=zdy hg;refine .inr (.inr (.inr (.inr (.inr ⟨a,b,c,rfl,?_⟩))));rcases Zk a.toNat with q|q|q|q
  ·omega
  ·exact absurd q.1 hl
  all_goals omega
 ·rw[e];have hne:a≠27:=λq=>by rw[q] at a1;exact absurd a1 (by decide)
  show BOk (if a=27 then _ else zbc s a [b,d] c).B;rw[if_neg hne];refine zpH a [b,d] c (λhg hl=>?_);rcases Zk a.toNat with q|q|q|q
  ·omega
  ·omega
  ·exact absurd q.1 hl
  ·omega
theorem Rs.Ok.one {s:Rs} (h:s.Ok) (c:UInt8):(za3 s c).Ok:=by
 unfold za3;split
 ·exact h.ground c
 ·split
  ·split
   ·unfold ziw;split
    ·exact h.setB _
    ·split
     ·exact h.odd
     ·exact(h.setB _).odd
   ·unfold zbW;split
    ·exact(h.setB _).odd
    ·split
     ·exact(h.setB _).seq _ _
     ·exact h.setB _
  ·unfold zbc;split
   ·exact((h.setB _).odd).ground c
   ·split
    ·exact(h.setB _).put _
    ·exact h.setB _
def zj (s:Rs) (l:List UInt8):Rs:=l.foldl za3 s
theorem zgz (s:Rs) (c:UInt8):(zw s c).B.size<=s.B.size+1:=by
 unfold zw;split
 ·rw[zg6];omega
 ·split
  ·rw[zrW];omega
  ·split
   ·rw[zg6];omega
   ·split
    ·show 1<=_;omega
    ·split
     ·rw[zgy];omega
     ·split
      ·show 1<=_;omega
      ·show s.B.size<=_;omega
theorem ziH (l:List UInt8):(⟨l.toArray⟩:ByteArray).size=l.length:=rfl
theorem zkx {s:Rs} (h:BOk s.B) (c:UInt8):(za3 s c).B.size<=s.B.size+1:=by
 unfold za3;have hlet:∀(a:UInt8) (l:List UInt8),s.B=⟨(a::l).toArray⟩->(zbc s a l c).B.size<=s.B.size+1:=by
  intro a l e;have hs:s.B.size=l.length+1:=by rw[e,ziH];rfl
  unfold zbc;split
  ·have:=zgz (zbn {s with B:=⟨#[]⟩}) c;have h0:(zbn {s with B:=⟨#[]⟩}).B.size=0:=rfl;omega
  ·split
   ·rw[zgy];show 0<=_;omega
   ·show(⟨(a::l ++ [c]).toArray⟩:ByteArray).size<=_;rw[ziH,hs];simp
 rcases h with e|e|⟨l,e⟩|⟨a,e,a1,a2⟩|⟨a,b,e,a1,a2,b1,b2⟩|⟨a,b,d,e,a1,a2,b1,b2,d1,d2⟩
 ·have:=zgz s c;rw[e] at this ⊢;exact this
 ·have hs:s.B.size=1:=by rw[e];rfl
  rw[hs];rw[e];show(ziw s c).B.size<=2;unfold ziw;split
  ·exact Nat.le_refl 2
  ·split
   ·show s.B.size<=2;omega
   ·show 0<=2;omega
 ·have hs:s.B.size=l.length+2:=by rw[e,ziH];rfl
  rw[hs];rw[e];show(zbW s l c).B.size<=_;unfold zbW;split
  ·show 1<=_;omega
  ·split
   ·rw[ztw];show 0<=_;omega
   ·show(⟨(27::91::l ++ [c]).toArray⟩:ByteArray).size<=_;rw[ziH];simp
 ·have hne:a≠27:=λq=>by rw[q] at a1;exact absurd a1 (by decide)
  have:=hlet a [] e;rw[e] at this ⊢;show(if a=27 then _ else zbc s a [] c).B.size<=_;rw[if_neg hne];exact this
 ·have hne:a≠27:=λq=>by rw[q] at a1;exact absurd a1 (by decide)
  have:=hlet a [b] e;rw[e] at this ⊢;show(if a=27 then _ else zbc s a [b] c).B.size<=_;rw[if_neg hne];exact this
 ·have hne:a≠27:=λq=>by rw[q] at a1;exact absurd a1 (by decide)
  have:=hlet a [b,d] e;rw[e] at this ⊢;show(if a=27 then _ else zbc s a [b,d] c).B.size<=_;rw[if_neg hne];exact this
end
end Go.Proofs.YtjlfibhbfdckpaaGreatDoor
