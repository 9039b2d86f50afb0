import Derived.Test.YtjlfibhbfdckpaaGreatDoorW09
namespace Go.Proofs.YtjlfibhbfdckpaaGreatDoor
set_option maxHeartbeats 64000000
set_option maxRecDepth 100000
section
open Wd (wd)
theorem Rs.Ok.cong {s t:Rs} (h:s.Ok) (hW:t.W=s.W) (hH:t.H=s.H) (hx:t.x=s.x) (hy:t.y=s.y) (hp:t.pend=s.pend) (ht:t.top=s.top) (hb:t.bot=s.bot) (hG:t.G=s.G):t.Ok:=
 ⟨by rw[hW];exact h.w1,by rw[hW];exact h.w2,by rw[hH];exact h.h1,by rw[hH];exact h.h2,by rw[hx];exact h.x0,by rw[hx,hW];exact h.x1,by rw[hy];exact h.y0,by rw[hy,hH];exact h.y1,by rw[ht];exact h.t0,by rw[ht,hb];exact h.tb,by rw[hb,hH];exact h.b1,by rw[hp,hx,hW];exact h.pd,by rw[hW,hH,hG];exact h.wf⟩
theorem Rs.Ok.odd {s:Rs} (h:s.Ok):(zbn s).Ok:=h.cong rfl rfl rfl rfl rfl rfl rfl rfl
theorem Rs.Ok.setB {s:Rs} (h:s.Ok) (b:ByteArray):Rs.Ok {s with B:=b}:=h.cong rfl rfl rfl rfl rfl rfl rfl rfl
theorem Rs.Ok.cells {s:Rs} (h:s.Ok) {G:Nat->Nat->zk} (hG:Wf s.W s.H G):Rs.Ok {s with G:=G} :=
 ⟨h.w1,h.w2,h.h1,h.h2,h.x0,h.x1,h.y0,h.y1,h.t0,h.tb,h.b1,h.pd,hG⟩
theorem zvs (s:Rs):(zt s).W=s.W:=by unfold zt;split<;>rfl
theorem zpF (s:Rs) (k:Int):(zaa s k).W=s.W:=by
 unfold zaa;split
 ·exact zvs _
 ·rfl
theorem znc (s:Rs):(zt s).pend=false:=by unfold zt;split<;>rfl
theorem zvt (s:Rs):(zt s).x=s.x\/(zt s).x=zap s.x s.W:=by
 unfold zt;split
 ·exact .inl rfl
 ·exact .inr rfl
theorem zkv {s:Rs} (h:s.Ok) (k:Int) (hk:k=1\/(k=2/\s.W≠1)):(zaa s k).pend=false/\(zaa s k).x+k<=s.W:=by
 have w1:=h.w1;unfold zaa;cases hw:zb8 s k with
 |true=>
  rw[if_pos rfl];refine⟨znc _,?_⟩;have hx:(zt {s with x:=0}).x=0:=by
   rcases zvt {s with x:=0} with e|e
   ·exact e
   ·rw[e];show zap 0 s.W=0;unfold zap;rw[if_neg (by omega),if_neg (by omega)]
  rw[hx];omega
 |false=>
  rw[if_neg (by decide)];simp[zb8] at hw;refine⟨hw.1,?_⟩;have:=h.x1;rcases hk with rfl|⟨rfl,_⟩
  ·omega
  ·have:=hw.2 rfl;omega
theorem Rs.Ok.put {s:Rs} (h:s.Ok) (r:Int):(zba s r).Ok:=by
 unfold zba;split
 ·exact h.cong rfl rfl rfl rfl rfl rfl rfl rfl
 ·rename_i hr;have hkr:(ze1 s.W r=1/\wd (zeq s.W r)=1)\/(ze1 s.W r=2/\wd (zeq s.W r)=2/\s.W≠1):=by
   unfold ze1 zeq;by_cases c:wd r=2/\s.W=1
   ·rw[if_pos c,if_pos c];exact .inl ⟨rfl,ze6⟩
   ·rw[if_neg c,if_neg c];rcases Wd.wd_cases r with q|q|q
    ·exact absurd q hr
    ·exact .inl ⟨q,q⟩
    ·exact .inr ⟨q,q,λe=>c ⟨q,e⟩⟩
  generalize ze1 s.W r=k at *;generalize zeq s.W r=r' at *;have hb:=h.broken k;have hf:=zkv h k (by omega);have hW:=zpF s k;generalize zaa s k=t at *;rw[←hW] at hf;have x0:=hb.x0;have x1:=hb.x1;have y0:=hb.y0;have y1:=hb.y1;obtain⟨x,hx⟩:=Int.eq_ofNat_of_zero_le x0;obtain⟨y,hy⟩:=Int.eq_ofNat_of_zero_le y0;have hwf:Wf t.W t.H (zR t.W t.H t.G t.x t.y r' t.pen):=by
   rw[hx,hy];rcases hkr with⟨rfl,q⟩|⟨rfl,q,_⟩
   ·exact(hb.wf.wrWhole (P:=pt x y) (v:=λ_ _=>⟨r',0,t.pen⟩) (λ_ _ _ _ _=>⟨rfl,q⟩)).congr (zdT hb.wf (by omega) (by omega) r' t.pen q).symm
   ·exact(hb.wf.wide (x:=x) (y:=y) (by omega) r' t.pen q).congr (zcS hb.wf (by omega) (by omega) r' t.pen q).symm
  have hw:(za8 t r').Ok:=hb.cells hwf;unfold zcr;split
  ·exact⟨hw.w1,hw.w2,hw.h1,hw.h2,by have:=hw.w1;show(0:Int)<=(t.W:Int)-1;have:1<=t.W:=this;omega,by show(t.W:Int)-1<t.W;omega,hw.y0,hw.y1,hw.t0,hw.tb,hw.b1,λ_=>rfl,hw.wf⟩
  ·rename_i hn;have hn':¬(t.W:Int)<=t.x+k:=hn;exact⟨hw.w1,hw.w2,hw.h1,hw.h2,by show(0:Int)<=t.x+k;omega,by show t.x+k<(t.W:Int);omega,hw.y0,hw.y1,hw.t0,hw.tb,hw.b1,(λq=>by
    have:t.pend=true:=q;rw[hf.1] at this;cases this),hw.wf⟩
theorem Rs.Ok.margins {s:Rs} (h:s.Ok) (n k:Int) (hn:1<=n) (hk:0<=k):(zaO s n k).Ok:=by
 unfold zaO;split
 ·rename_i hc;have h1:=h.h1;have a:=zbJ 0 s.W h.w1;have b:=zbJ 0 s.H h.h1;have hl:zb9 s.H k<=s.H/\1<=zb9 s.H k:=by
   unfold zb9;split
   ·omega
   ·omega
  exact⟨h.w1,h.w2,h.h1,h.h2,a.1,a.2,b.1,b.2,by show(0:Int)<=n-1;omega,by show n-1<=zb9 s.H k-1;omega,by show zb9 s.H k-1<s.H;omega,(λq=>by cases q),h.wf⟩
 ·exact h
theorem Rs.Ok.done {s:Rs} (h:s.Ok) (l:List Int) (hs:zaV l) (last:Int):(zJ s l last).Ok:=by
 have n1:1<=Zu (l.getD 0 0):=by
  have:=(hs 0).1;unfold Zu;split<;>omega
 unfold zJ;simp only;by_cases c1:last=65
 ·rw[if_pos c1];exact h.goes _ _
 rw[if_neg c1];by_cases c2:last=66
 ·rw[if_pos c2];exact h.goes _ _
 rw[if_neg c2];by_cases c3:last=67
 ·rw[if_pos c3];exact h.goes _ _
 rw[if_neg c3];by_cases c4:last=68
 ·rw[if_pos c4];exact h.goes _ _
 rw[if_neg c4];by_cases c5:last=72
 ·rw[if_pos c5];exact h.goes _ _
 rw[if_neg c5];by_cases c6:last=75
 ·rw[if_pos c6];exact h.era _ _
 rw[if_neg c6];by_cases c7:last=74
 ·rw[if_pos c7];exact h.era _ _
 rw[if_neg c7];by_cases c8:last=88
 ·rw[if_pos c8];exact h.cells (h.wf.blk _ _)
 rw[if_neg c8];by_cases c9:last=83
 ·rw[if_pos c9];exact zf3 h _ _
 rw[if_neg c9];by_cases c10:last=84
 ·rw[if_pos c10];exact zf3 h _ _
 rw[if_neg c10];by_cases c11:last=114
 ·rw[if_pos c11];exact h.margins _ _ n1 (hs 1).1
 rw[if_neg c11];by_cases c12:last=109
 ·rw[if_pos c12];exact h.cong rfl rfl rfl rfl rfl rfl rfl rfl
 rw[if_neg c12];exact h.odd
theorem ziv {l k:List Int} (h:zaV l) (c:Int) (e:Z2 l c=some k):zaV k:=by
 unfold Z2 at e;split at e
 ·cases e;exact zfi (zcu h)
 ·split at e
  ·rename_i hc;cases e;have:=(zcu h) ((zz l).length-1);have h1:0<=zbh (zz l):=this.1;refine zeT (zcu h) _ _ ?_ ?_
   ·unfold zf4;split<;>omega
   ·unfold zf4;split<;>omega
  ·cases e
theorem zdW (b:List UInt8) (l k:List Int) (h:zaV l) (e:Zm b l=some k):zaV k:=by
 induction b generalizing l with
 |nil=>cases e;exact h
 |cons c r ih=>
  simp only[Zm] at e;cases hs:Z2 l c.toNat with
  |none=>rw[hs] at e;cases e
  |some m=>rw[hs] at e;exact ih m (ziv h _ hs) e
theorem Rs.Ok.seq {s:Rs} (h:s.Ok) (b:ByteArray) (last:Int):(ze2 s b last).Ok:=by
 unfold ze2;cases hn:zel b with
 |none=>exact h.odd
 |some l=>
  simp only;split
  ·exact h.done l (zdW _ _ _ zcP hn) last
  ·exact h.odd
theorem Rs.Ok.ground {s:Rs} (h:s.Ok) (c:UInt8):(zw s c).Ok:=by
 unfold zw;split
 ·exact h.goes _ _
 ·split
  ·exact h.lf
  ·split
   ·exact h.goes _ _
   ·split
    ·exact h.setB _
    ·split
     ·exact h.put _
     ·split
      ·exact h.setB _
      ·exact h.odd
end
section
def zbc (s:Rs) (a:UInt8) (l:List UInt8) (c:UInt8):Rs:=
 if zq (a::l) c.toNat=false then zw (zbn {s with B:=⟨#[]⟩}) c
 else if zQ a.toNat=((l.length+2:Nat):Int) then zba {s with B:=⟨#[]⟩} (Zn (a::l ++ [c])) else {s with B:=⟨(a::l ++ [c]).toArray⟩}
def ziw (s:Rs) (c:UInt8):Rs:=
 if (c.toNat:Int)=91 then {s with B:=⟨#[27,91]⟩} else if (c.toNat:Int)=27 then zbn s else zbn {s with B:=⟨#[]⟩}
def zbW (s:Rs) (l:List UInt8) (c:UInt8):Rs:=
 if (c.toNat:Int)=27 then zbn {s with B:=⟨#[27]⟩} else if 64<=(c.toNat:Int)/\(c.toNat:Int)<=126 then ze2 {s with B:=⟨#[]⟩} ⟨l.toArray⟩ c.toNat
 else {s with B:=⟨(27::91::l ++ [c]).toArray⟩}
def za3 (s:Rs) (c:UInt8):Rs:=match s.B.data.toList with
 |[]=>zw s c
 |a::l=>if a=27 then(match l with
  |[]=>ziw s c
  |_::r=>zbW s r c) else zbc s a l c
def BOk (b:ByteArray):Prop:=b=⟨#[]⟩\/b=⟨#[27]⟩\/(∃l:List UInt8,b=⟨(27::91::l).toArray⟩)
 ∨ (∃a:UInt8,b=⟨#[a]⟩/\194<=a.toNat/\a.toNat<=244)\/(∃a b':UInt8,b=⟨#[a,b']⟩/\224<=a.toNat/\a.toNat<=244/\128<=b'.toNat/\b'.toNat<=191)
 ∨ (∃a b' d:UInt8,b=⟨#[a,b',d]⟩/\240<=a.toNat/\a.toNat<=244/\128<=b'.toNat/\b'.toNat<=191/\128<=d.toNat/\d.toNat<=191)
theorem zcm:BOk ⟨#[]⟩:=.inl rfl
theorem zg6 (s:Rs) (x y:Int):(ZQ s x y).B=s.B:=rfl
theorem zrW (s:Rs):(zt s).B=s.B:=by unfold zt;split<;>rfl
theorem zgy (s:Rs) (r:Int):(zba s r).B=s.B:=by
 unfold zba;split
 ·rfl
 ·have hb:∀k,(zaa s k).B=s.B:=λk=>by
   unfold zaa;split
   ·rw[zrW]
   ·rfl
  have hst:∀(t:Rs) k,(zcr t k).B=t.B:=λt k=>by unfold zcr;split<;>rfl
  rw[hst];exact hb _
theorem zpG (s:Rs) (l:List Int) (last:Int):(zJ s l last).B=s.B:=by
 unfold zJ;simp only;by_cases c0:last=65
 ·rw[if_pos c0];rfl
 rw[if_neg c0];by_cases c1:last=66
 ·rw[if_pos c1];rfl
 rw[if_neg c1];by_cases c2:last=67
 ·rw[if_pos c2];rfl
 rw[if_neg c2];by_cases c3:last=68
 ·rw[if_pos c3];rfl
 rw[if_neg c3];by_cases c4:last=72
 ·rw[if_pos c4];rfl
 rw[if_neg c4];by_cases c5:last=75
 ·rw[if_pos c5];rfl
 rw[if_neg c5];by_cases c6:last=74
 ·rw[if_pos c6];rfl
 rw[if_neg c6];by_cases c7:last=88
 ·rw[if_pos c7]
 rw[if_neg c7];by_cases c8:last=83
 ·rw[if_pos c8]
 rw[if_neg c8];by_cases c9:last=84
 ·rw[if_pos c9]
 rw[if_neg c9];by_cases c10:last=114
 ·rw[if_pos c10];unfold zaO;split<;>rfl
 rw[if_neg c10];by_cases c11:last=109
 ·rw[if_pos c11];rfl
 rw[if_neg c11];rfl
theorem ztw (s:Rs) (b:ByteArray) (last:Int):(ze2 s b last).B=s.B:=by
 unfold ze2;split
 ·rfl
 ·split
  ·exact zpG _ _ _
  ·rfl
theorem zkw {s:Rs} (hB:s.B=⟨#[]⟩) (c:UInt8):BOk (zw s c).B:=by
 unfold zw;split
 ·rw[zg6,hB];exact zcm
 ·split
  ·rw[zrW,hB];exact zcm
  ·split
   ·rw[zg6,hB];exact zcm
   ·split
    ·exact .inr (.inl rfl)
    ·split
     ·rw[zgy,hB];exact zcm
     ·split
      ·rename_i hl;refine .inr (.inr (.inr (.inl ⟨c,rfl,?_⟩)));unfold zQ at hl;split at hl
       ·omega
       ·split at hl
        ·omega
        ·split at hl
         ·omega
         ·omega
      ·show BOk s.B;rw[hB];exact zcm
theorem zg7 (a:Int):128<=zbb a:=by
 unfold zbb;split
 ·omega
 ·split<;>omega
theorem zfC (a:Int):Z6 a<=191:=by
 unfold Z6;split
 ·omega
 ·split<;>omega
theorem zdy {l:List UInt8} {c:UInt8} (h:zq l c.toNat=true):128<=c.toNat/\c.toNat<=191:=by
 unfold zq at h;split at h
 ·rename_i a;have h1:=zg7 a.toNat;have h2:=zfC a.toNat;simp at h;omega
 ·simp at h;omega
theorem Zk (a:Int):(zQ a=2/\194<=a/\a<=223)\/(zQ a=3/\224<=a/\a<=239)\/(zQ a=4/\240<=a/\a<=244)\/(zQ a=0/\(a<194\/244<a)):=by
 unfold zQ;by_cases h1:194<=a/\a<=223
 ·rw[if_pos h1];exact .inl ⟨rfl,h1⟩
 ·rw[if_neg h1];by_cases h2:224<=a/\a<=239
  ·rw[if_pos h2];exact .inr (.inl ⟨rfl,h2⟩)
  ·rw[if_neg h2];by_cases h3:240<=a/\a<=244
   ·rw[if_pos h3];exact .inr (.inr (.inl ⟨rfl,h3⟩))
   ·rw[if_neg h3];exact .inr (.inr (.inr ⟨rfl,by omega⟩))
theorem zpH {s:Rs} (a:UInt8) (l:List UInt8) (c:UInt8) (hmore:zq (a::l) c.toNat=true->zQ a.toNat≠((l.length+2:Nat):Int)->BOk ⟨(a::l ++ [c]).toArray⟩):BOk (zbc s a l c).B:=by
 unfold zbc;split
 ·exact zkw rfl c
 ·rename_i hg;split
  ·rw[zgy];exact zcm
  ·exact hmore (by simpa using hg) (by assumption)
theorem ztx {s:Rs} (h:BOk s.B) (c:UInt8):BOk (za3 s c).B:=by
 unfold za3;rcases h with e|e|⟨l,e⟩|⟨a,e,a1,a2⟩|⟨a,b,e,a1,a2,b1,b2⟩|⟨a,b,d,e,a1,a2,b1,b2,d1,d2⟩
 ·rw[e];exact zkw e c
 ·rw[e];show BOk (ziw s c).B;unfold ziw;split
  ·exact .inr (.inr (.inl ⟨[],rfl⟩))
  ·split
   ·show BOk s.B;rw[e];exact .inr (.inl rfl)
   ·exact zcm
 ·rw[e];show BOk (zbW s l c).B;unfold zbW;split
  ·exact .inr (.inl rfl)
  ·split
   ·rw[ztw];exact zcm
   ·exact .inr (.inr (.inl ⟨l ++ [c],rfl⟩))
 ·rw[e];have hne:a≠27:=λq=>by rw[q] at a1;exact absurd a1 (by decide)
  show BOk (if a=27 then _ else zbc s a [] c).B;rw[if_neg hne];refine zpH a [] c (λhg hl=>?_);have:=zdy hg;refine .inr (.inr (.inr (.inr (.inl ⟨a,c,rfl,?_⟩))));rcases Zk a.toNat with q|q|q|q
  ·exact absurd q.1 hl
  all_goals omega
 ·rw[e];have hne:a≠27:=λq=>by rw[q] at a1;exact absurd a1 (by decide)
  show BOk (if a=27 then _ else zbc s a [b] c).B;rw[if_neg hne];refine zpH a [b] c (λhg hl=>?_);have:=zdy hg;refine .inr (.inr (.inr (.inr (.inr ⟨a,b,c,rfl,?_⟩))));rcases Zk a.toNat with q|q|q|q
  ·omega
  ·exact absurd q.1 hl
  all_goals omega
 ·rw[e];have hne:a≠27:=λq=>by rw[q] at a1;exact absurd a1 (by decide)
  show BOk (if a=27 then _ else zbc s a [b,d] c).B;rw[if_neg hne];refine zpH a [b,d] c (λhg hl=>?_);rcases Zk a.toNat with q|q|q|q
  ·omega
  ·omega
  ·exact absurd q.1 hl
  ·omega
theorem Rs.Ok.one {s:Rs} (h:s.Ok) (c:UInt8):(za3 s c).Ok:=by
 unfold za3;split
 ·exact h.ground c
 ·split
  ·split
   ·unfold ziw;split
    ·exact h.setB _
    ·split
     ·exact h.odd
     ·exact(h.setB _).odd
   ·unfold zbW;split
    ·exact(h.setB _).odd
    ·split
     ·exact(h.setB _).seq _ _
     ·exact h.setB _
  ·unfold zbc;split
   ·exact((h.setB _).odd).ground c
   ·split
    ·exact(h.setB _).put _
    ·exact h.setB _
def zj (s:Rs) (l:List UInt8):Rs:=l.foldl za3 s
theorem zgz (s:Rs) (c:UInt8):(zw s c).B.size<=s.B.size+1:=by
 unfold zw;split
 ·rw[zg6];omega
 ·split
  ·rw[zrW];omega
  ·split
   ·rw[zg6];omega
   ·split
    ·show 1<=_;omega
    ·split
     ·rw[zgy];omega
     ·split
      ·show 1<=_;omega
      ·show s.B.size<=_;omega
theorem ziH (l:List UInt8):(⟨l.toArray⟩:ByteArray).size=l.length:=rfl
theorem zkx {s:Rs} (h:BOk s.B) (c:UInt8):(za3 s c).B.size<=s.B.size+1:=by
 unfold za3;have hlet:∀(a:UInt8) (l:List UInt8),s.B=⟨(a::l).toArray⟩->(zbc s a l c).B.size<=s.B.size+1:=by
  intro a l e;have hs:s.B.size=l.length+1:=by rw[e,ziH];rfl
  unfold zbc;split
  ·have:=zgz (zbn {s with B:=⟨#[]⟩}) c;have h0:(zbn {s with B:=⟨#[]⟩}).B.size=0:=rfl;omega
  ·split
   ·rw[zgy];show 0<=_;omega
   ·show(⟨(a::l ++ [c]).toArray⟩:ByteArray).size<=_;rw[ziH,hs];simp
 rcases h with e|e|⟨l,e⟩|⟨a,e,a1,a2⟩|⟨a,b,e,a1,a2,b1,b2⟩|⟨a,b,d,e,a1,a2,b1,b2,d1,d2⟩
 ·have:=zgz s c;rw[e] at this ⊢;exact this
 ·have hs:s.B.size=1:=by rw[e];rfl
  rw[hs];rw[e];show(ziw s c).B.size<=2;unfold ziw;split
  ·exact Nat.le_refl 2
  ·split
   ·show s.B.size<=2;omega
   ·show 0<=2;omega
 ·have hs:s.B.size=l.length+2:=by rw[e,ziH];rfl
  rw[hs];rw[e];show(zbW s l c).B.size<=_;unfold zbW;split
  ·show 1<=_;omega
  ·split
   ·rw[ztw];show 0<=_;omega
   ·show(⟨(27::91::l ++ [c]).toArray⟩:ByteArray).size<=_;rw[ziH];simp
 ·have hne:a≠27:=λq=>by rw[q] at a1;exact absurd a1 (by decide)
  have:=hlet a [] e;rw[e] at this ⊢;show(if a=27 then _ else zbc s a [] c).B.size<=_;rw[if_neg hne];exact this
 ·have hne:a≠27:=λq=>by rw[q] at a1;exact absurd a1 (by decide)
  have:=hlet a [b] e;rw[e] at this ⊢;show(if a=27 then _ else zbc s a [b] c).B.size<=_;rw[if_neg hne];exact this
 ·have hne:a≠27:=λq=>by rw[q] at a1;exact absurd a1 (by decide)
  have:=hlet a [b,d] e;rw[e] at this ⊢;show(if a=27 then _ else zbc s a [b,d] c).B.size<=_;rw[if_neg hne];exact this
end
section
open Go.RowKit
structure Pt where
 mode:Int
 by4:Nat->Int
 bn:Int
 nm:Nat->Int
 cn:Int
 bad:Bool
abbrev zdh (bg:Nat) (s:Rs) (t:Pt):Array Value:=#[.pointer (some ⟨bg,0,none⟩),.int .i64 s.x,.int .i64 s.y,.bool s.pend,.int .i64 s.pen.f,.int .i64 s.pen.b,.bool s.pen.bo,.bool s.pen.un,.bool s.pen.re,.int .i64 s.top,.int .i64 s.bot,.int .i64 t.mode,.int .u8 (t.by4 0),.int .u8 (t.by4 1),.int .u8 (t.by4 2),.int .u8 (t.by4 3),.int .i64 t.bn,.int .i64 (t.nm 0),.int .i64 (t.nm 1),.int .i64 (t.nm 2),.int .i64 (t.nm 3),.int .i64 (t.nm 4),.int .i64 (t.nm 5),.int .i64 (t.nm 6),.int .i64 (t.nm 7),.int .i64 t.cn,.bool t.bad]
structure zh (w:World) (bs bg g N:Nat) (s:Rs) (t:Pt):Prop where
 blk:w.heap[bs]?=some (.cells (zdh bg s t) 153)
 gr:Zi w bg g s.W s.H N s.G
 ne1:bs≠bg
 ne2:bs≠g
section
variable {w w':World} {bs bg g N:Nat} {s:Rs} {t:Pt}
theorem zh.lt (h:zh w bs bg g N s t):bs<w.heap.size:=(Array.getElem?_eq_some_iff.1 h.blk).1
theorem zh.same (h:zh w bs bg g N s t) (h1:w'.heap[bs]?=w.heap[bs]?) (h2:w'.heap[bg]?=w.heap[bg]?) (h3:w'.heap[g]?=w.heap[g]?):zh w' bs bg g N s t:=
 ⟨by rw[h1];exact h.blk,h.gr.same h2 h3,h.ne1,h.ne2⟩
theorem zh.below (h:zh w bs bg g N s t) (hb:Below w.heap.size w w'):zh w' bs bg g N s t:=
 h.same (hb.block _ h.lt) (hb.block _ h.gr.lt) (hb.block _ h.gr.glt)
theorem zh.free (h:zh w bs bg g N s t):∀o,w.frozen? ⟨bs,o,none⟩=false:=ze h.blk
theorem zh.drew (h:zh w bs bg g N s t):zh w.drew bs bg g N s t:=h.same rfl rfl rfl
theorem zh.drewN (h:zh w bs bg g N s t) (n:Nat):zh (w.drewN n) bs bg g N s t:=h.same rfl rfl rfl
theorem zh.store (h:zh w bs bg g N s t) (o:Nat) (v:Value) (s':Rs) (t':Pt) (hs:(zdh bg s t).setIfInBounds o v=zdh bg s' t') (hW:s'.W=s.W) (hH:s'.H=s.H) (hG:s'.G=s.G):zh (w.setCell ⟨bs,o,none⟩ v) bs bg g N s' t':=by
 refine⟨?_,?_,h.ne1,h.ne2⟩
 ·rw[zg h.blk,hs]
 ·rw[hW,hH,hG];exact h.gr.same (Below.heap_setCell _ _ _ _ (λe=>h.ne1 e.symm)) (Below.heap_setCell _ _ _ _ (λe=>h.ne2 e.symm))
theorem zh.cells {g' N':Nat} (h:zh w bs bg g N s t) (s':Rs) (hb:w'.heap[bs]?=w.heap[bs]?) (hc:Zi w' bg g' s'.W s'.H N' s'.G) (hs:zdh bg s' t=zdh bg s t) (hg:bs≠g'):zh w' bs bg g' N' s' t:=
 ⟨by rw[hb,hs];exact h.blk,hc,h.ne1,hg⟩
theorem zh.congr (h:zh w bs bg g N s t) (s':Rs) (hs:zdh bg s' t=zdh bg s t) (hW:s'.W=s.W) (hH:s'.H=s.H) (hG:ZX s.W s.H s.G s'.G):zh w bs bg g N s' t:=
 ⟨by rw[hs];exact h.blk,by rw[hW,hH];exact h.gr.congr hG,h.ne1,h.ne2⟩
theorem zh.f0 (h:zh w bs bg g N s t):w.cell? ⟨bs,0,none⟩=some (.pointer (some ⟨bg,0,none⟩)):=za h.blk 0
theorem zh.f1 (h:zh w bs bg g N s t):w.cell? ⟨bs,1,none⟩=some (.int .i64 s.x):=za h.blk 1
theorem zh.f2 (h:zh w bs bg g N s t):w.cell? ⟨bs,2,none⟩=some (.int .i64 s.y):=za h.blk 2
theorem zh.f3 (h:zh w bs bg g N s t):w.cell? ⟨bs,3,none⟩=some (.bool s.pend):=za h.blk 3
theorem zh.f4 (h:zh w bs bg g N s t):w.cell? ⟨bs,4,none⟩=some (.int .i64 s.pen.f):=za h.blk 4
theorem zh.f5 (h:zh w bs bg g N s t):w.cell? ⟨bs,5,none⟩=some (.int .i64 s.pen.b):=za h.blk 5
theorem zh.f6 (h:zh w bs bg g N s t):w.cell? ⟨bs,6,none⟩=some (.bool s.pen.bo):=za h.blk 6
theorem zh.f7 (h:zh w bs bg g N s t):w.cell? ⟨bs,7,none⟩=some (.bool s.pen.un):=za h.blk 7
theorem zh.f8 (h:zh w bs bg g N s t):w.cell? ⟨bs,8,none⟩=some (.bool s.pen.re):=za h.blk 8
theorem zh.f9 (h:zh w bs bg g N s t):w.cell? ⟨bs,9,none⟩=some (.int .i64 s.top):=za h.blk 9
theorem zh.f10 (h:zh w bs bg g N s t):w.cell? ⟨bs,10,none⟩=some (.int .i64 s.bot):=za h.blk 10
theorem zh.f11 (h:zh w bs bg g N s t):w.cell? ⟨bs,11,none⟩=some (.int .i64 t.mode):=za h.blk 11
theorem zh.f12 (h:zh w bs bg g N s t):w.cell? ⟨bs,12,none⟩=some (.int .u8 (t.by4 0)):=za h.blk 12
theorem zh.f13 (h:zh w bs bg g N s t):w.cell? ⟨bs,13,none⟩=some (.int .u8 (t.by4 1)):=za h.blk 13
theorem zh.f14 (h:zh w bs bg g N s t):w.cell? ⟨bs,14,none⟩=some (.int .u8 (t.by4 2)):=za h.blk 14
theorem zh.f15 (h:zh w bs bg g N s t):w.cell? ⟨bs,15,none⟩=some (.int .u8 (t.by4 3)):=za h.blk 15
theorem zh.f16 (h:zh w bs bg g N s t):w.cell? ⟨bs,16,none⟩=some (.int .i64 t.bn):=za h.blk 16
theorem zh.f17 (h:zh w bs bg g N s t):w.cell? ⟨bs,17,none⟩=some (.int .i64 (t.nm 0)):=za h.blk 17
theorem zh.f18 (h:zh w bs bg g N s t):w.cell? ⟨bs,18,none⟩=some (.int .i64 (t.nm 1)):=za h.blk 18
theorem zh.f19 (h:zh w bs bg g N s t):w.cell? ⟨bs,19,none⟩=some (.int .i64 (t.nm 2)):=za h.blk 19
theorem zh.f20 (h:zh w bs bg g N s t):w.cell? ⟨bs,20,none⟩=some (.int .i64 (t.nm 3)):=za h.blk 20
theorem zh.f21 (h:zh w bs bg g N s t):w.cell? ⟨bs,21,none⟩=some (.int .i64 (t.nm 4)):=za h.blk 21
theorem zh.f22 (h:zh w bs bg g N s t):w.cell? ⟨bs,22,none⟩=some (.int .i64 (t.nm 5)):=za h.blk 22
theorem zh.f23 (h:zh w bs bg g N s t):w.cell? ⟨bs,23,none⟩=some (.int .i64 (t.nm 6)):=za h.blk 23
theorem zh.f24 (h:zh w bs bg g N s t):w.cell? ⟨bs,24,none⟩=some (.int .i64 (t.nm 7)):=za h.blk 24
theorem zh.f25 (h:zh w bs bg g N s t):w.cell? ⟨bs,25,none⟩=some (.int .i64 t.cn):=za h.blk 25
theorem zh.f26 (h:zh w bs bg g N s t):w.cell? ⟨bs,26,none⟩=some (.bool t.bad):=za h.blk 26
theorem zh.setX (h:zh w bs bg g N s t) (v:Int):zh (w.setCell ⟨bs,1,none⟩ (.int .i64 v)) bs bg g N {s with x:=v} t:=h.store 1 _ _ _ rfl rfl rfl rfl
theorem zh.setY (h:zh w bs bg g N s t) (v:Int):zh (w.setCell ⟨bs,2,none⟩ (.int .i64 v)) bs bg g N {s with y:=v} t:=h.store 2 _ _ _ rfl rfl rfl rfl
theorem zh.setPend (h:zh w bs bg g N s t) (v:Bool):zh (w.setCell ⟨bs,3,none⟩ (.bool v)) bs bg g N {s with pend:=v} t:=h.store 3 _ _ _ rfl rfl rfl rfl
theorem zh.setTop (h:zh w bs bg g N s t) (v:Int):zh (w.setCell ⟨bs,9,none⟩ (.int .i64 v)) bs bg g N {s with top:=v} t:=h.store 9 _ _ _ rfl rfl rfl rfl
theorem zh.setBot (h:zh w bs bg g N s t) (v:Int):zh (w.setCell ⟨bs,10,none⟩ (.int .i64 v)) bs bg g N {s with bot:=v} t:=h.store 10 _ _ _ rfl rfl rfl rfl
theorem zh.setMode (h:zh w bs bg g N s t) (v:Int):zh (w.setCell ⟨bs,11,none⟩ (.int .i64 v)) bs bg g N s {t with mode:=v}:=h.store 11 _ _ _ rfl rfl rfl rfl
theorem zh.setBn (h:zh w bs bg g N s t) (v:Int):zh (w.setCell ⟨bs,16,none⟩ (.int .i64 v)) bs bg g N s {t with bn:=v}:=h.store 16 _ _ _ rfl rfl rfl rfl
theorem zh.setCn (h:zh w bs bg g N s t) (v:Int):zh (w.setCell ⟨bs,25,none⟩ (.int .i64 v)) bs bg g N s {t with cn:=v}:=h.store 25 _ _ _ rfl rfl rfl rfl
theorem zh.setBad (h:zh w bs bg g N s t) (v:Bool):zh (w.setCell ⟨bs,26,none⟩ (.bool v)) bs bg g N s {t with bad:=v}:=h.store 26 _ _ _ rfl rfl rfl rfl
theorem zh.byte (h:zh w bs bg g N s t) (i:Nat) (hi:i<4):w.cell? ⟨bs,12+i,none⟩=some (.int .u8 (t.by4 i)):=by
 match i,hi with
 |0,_=>exact h.f12
 |1,_=>exact h.f13
 |2,_=>exact h.f14
 |3,_=>exact h.f15
def zhs (f:Nat->Int) (i:Nat) (v:Int):Nat->Int:=λj=>if j=i then v else f j
theorem zh.setByte (h:zh w bs bg g N s t) (i:Nat) (hi:i<4) (v:Int):zh (w.setCell ⟨bs,12+i,none⟩ (.int .u8 v)) bs bg g N s {t with by4:=zhs t.by4 i v}:=by
 match i,hi with
 |0,_=>exact h.store 12 _ _ _ rfl rfl rfl rfl
 |1,_=>exact h.store 13 _ _ _ rfl rfl rfl rfl
 |2,_=>exact h.store 14 _ _ _ rfl rfl rfl rfl
 |3,_=>exact h.store 15 _ _ _ rfl rfl rfl rfl
theorem zh.num (h:zh w bs bg g N s t) (i:Nat) (hi:i<8):w.cell? ⟨bs,17+i,none⟩=some (.int .i64 (t.nm i)):=by
 match i,hi with
 |0,_=>exact h.f17
 |1,_=>exact h.f18
 |2,_=>exact h.f19
 |3,_=>exact h.f20
 |4,_=>exact h.f21
 |5,_=>exact h.f22
 |6,_=>exact h.f23
 |7,_=>exact h.f24
theorem zh.setNum (h:zh w bs bg g N s t) (i:Nat) (hi:i<8) (v:Int):zh (w.setCell ⟨bs,17+i,none⟩ (.int .i64 v)) bs bg g N s {t with nm:=zhs t.nm i v}:=by
 match i,hi with
 |0,_=>exact h.store 17 _ _ _ rfl rfl rfl rfl
 |1,_=>exact h.store 18 _ _ _ rfl rfl rfl rfl
 |2,_=>exact h.store 19 _ _ _ rfl rfl rfl rfl
 |3,_=>exact h.store 20 _ _ _ rfl rfl rfl rfl
 |4,_=>exact h.store 21 _ _ _ rfl rfl rfl rfl
 |5,_=>exact h.store 22 _ _ _ rfl rfl rfl rfl
 |6,_=>exact h.store 23 _ _ _ rfl rfl rfl rfl
 |7,_=>exact h.store 24 _ _ _ rfl rfl rfl rfl
end
def zvu (bs bg g:Nat) (w:World) (s:Rs) (t:Pt) (r:Value) (e:Ending) (w':World):Prop:=
 ∃g' N',e=.returned r/\zh w' bs bg g' N' s t/\zd (λi=>i=bs\/i=bg\/i=g) w w'/\(g'=g\/w.heap.size<=g')
theorem ze8 (v:Int) {m:Nat} (h:1<=m):zcU v 0 ((m:Int)-1)=zap v m:=by
 unfold zcU zK ZU zap;split<;>split<;>split<;>omega
def zV (bs bg g N:Nat) (w:World) (s:Rs) (t:Pt) (r:Value) (e:Ending) (w':World):Prop:=
 e=.returned r/\zh w' bs bg g N s t/\zd (λi=>i=bs\/i=bg\/i=g) w w'
inductive Pl where | top (k : Nat) | win (n : Int) (k : Nat)
structure Mm where
 t:Nat->Nat
 b:Int->Nat
 c:Int->Nat
 g:Int->Nat
 s:Int->Value
def Mm.blk (M:Mm):Pl->Option Nat
 |.top k=>some (M.t k)
 |.win n 0=>some (M.b n)
 |.win n 1=>some (M.c n)
 |.win n 2=>some (M.g n)
 |.win n _=>(M.s n).ownBlock
def Pl.ok (L:List Wn):Pl->Prop
 |.top k=>k<5
 |.win n k=>k<4/\∃v∈L,v.n=n
def Mm.own (M:Mm) (L:List Wn) (i:Nat):Prop:=∃p:Pl,p.ok L/\M.blk p=some i
def Mm.inj (M:Mm) (L:List Wn):Prop:=∀(p q:Pl) (i:Nat),p.ok L->q.ok L->M.blk p=some i->M.blk q=some i->p=q
def Mm.pp (M:Mm) (n:Int):Option Addr:=if n = -1 then none else some ⟨M.b n,0,none⟩
abbrev Mm.ptr (M:Mm) (n:Int):Value:=.pointer (some ⟨M.b n,0,none⟩)
def Mm.ptrs (M:Mm) (l:List Wn):List Value:=l.map (λu=>M.ptr u.n)
abbrev Z8 (v:Wn) (pp:Option Addr) (cn:Nat) (sv:Value):Array Value:=#[.int .i64 v.n,.pointer pp,.int .i64 v.x,.int .i64 v.y,.bool v.sh,.pointer (some ⟨cn,0,none⟩),sv]
structure Z9 (w:World) (v:Wn) (bn cn gn:Nat) (pp:Option Addr) (sv:Value) (ks:List Value):Prop where
 blk:w.heap[bn]?=some (.cells (Z8 v pp cn sv) 131)
 gr:Zi w cn gn v.W v.H (v.H*v.W) v.G
 wf:Wf v.W v.H v.G
 row:w.ownsRow 2 111 1 sv ks.length ks
theorem zx {w w':World} {base:Nat} {e:TypeId} {size:Nat} {v:Value} {n:Nat} {xs:List Value} (h:w.ownsRow base e size v n xs) (hs:∀i,v.ownBlock=some i->w'.heap[i]?=w.heap[i]?):w'.ownsRow base e size v n xs:=by
 refine⟨h.1,?_⟩;rcases h.2 with h0|⟨g,cap,cur,rfl,h1,h2,h3⟩
 ·exact .inl h0
 ·exact .inr ⟨g,cap,cur,rfl,h1,by rw[hs g rfl];exact h2,h3⟩
theorem Zw {w:World} {base:Nat} {e:TypeId} {size:Nat} {v:Value} {n:Nat} {xs:List Value} (h:w.ownsRow base e size v n xs) {i:Nat} (hs:v.ownBlock=some i):i<w.heap.size/\base<=i:=by
 rcases h.2 with⟨rfl,_⟩|⟨g,cap,cur,rfl,h1,h2,h3⟩
 ·simp[Value.ownBlock] at hs
 ·obtain rfl:g=i:=by simpa[Value.ownBlock] using hs
  exact⟨(Array.getElem?_eq_some_iff.1 h2).1,h1⟩
section
variable {w w':World} {v:Wn} {bn cn gn:Nat} {pp:Option Addr} {sv:Value} {ks:List Value}
theorem Z9.lt (h:Z9 w v bn cn gn pp sv ks):bn<w.heap.size:=(Array.getElem?_eq_some_iff.1 h.blk).1
theorem Z9.same (h:Z9 w v bn cn gn pp sv ks) (h1:w'.heap[bn]?=w.heap[bn]?) (h2:w'.heap[cn]?=w.heap[cn]?) (h3:w'.heap[gn]?=w.heap[gn]?) (h4:∀i,sv.ownBlock=some i->w'.heap[i]?=w.heap[i]?):Z9 w' v bn cn gn pp sv ks:=
 ⟨by rw[h1];exact h.blk,h.gr.same h2 h3,h.wf,zx h.row h4⟩
theorem Z9.f0 (h:Z9 w v bn cn gn pp sv ks):w.cell? ⟨bn,0,none⟩=some (.int .i64 v.n):=za h.blk 0
theorem Z9.f1 (h:Z9 w v bn cn gn pp sv ks):w.cell? ⟨bn,1,none⟩=some (.pointer pp):=za h.blk 1
theorem Z9.f2 (h:Z9 w v bn cn gn pp sv ks):w.cell? ⟨bn,2,none⟩=some (.int .i64 v.x):=za h.blk 2
theorem Z9.f3 (h:Z9 w v bn cn gn pp sv ks):w.cell? ⟨bn,3,none⟩=some (.int .i64 v.y):=za h.blk 3
theorem Z9.f4 (h:Z9 w v bn cn gn pp sv ks):w.cell? ⟨bn,4,none⟩=some (.bool v.sh):=za h.blk 4
theorem Z9.f5 (h:Z9 w v bn cn gn pp sv ks):w.cell? ⟨bn,5,none⟩=some (.pointer (some ⟨cn,0,none⟩)):=za h.blk 5
theorem Z9.f6 (h:Z9 w v bn cn gn pp sv ks):w.cell? ⟨bn,6,none⟩=some sv:=za h.blk 6
theorem Z9.free (h:Z9 w v bn cn gn pp sv ks):∀o,w.frozen? ⟨bn,o,none⟩=false:=ze h.blk
end
structure ZK (L:List Wn) (last:Int):Prop where
 tree:∃rk K,ZR L rk K
 le:∀v∈L,v.n<=last
 len:L.length<=16
 pl:∀v∈L,-1000<=v.x/\v.x<=1000/\-1000<=v.y/\v.y<=1000
structure zI (w:World) (M:Mm) (L:List Wn) (last:Int) (N:Nat) (s:Rs) (t:Pt):Prop where
 b0:w.heap[M.t 0]?=some (.cells #[.pointer (some ⟨M.t 1,0,none⟩)] 75)
 b1:w.heap[M.t 1]?=some (.cells #[M.ptr 0,.int .i64 last,.pointer (some ⟨M.t 2,0,none⟩)] 133)
 scr:zh w (M.t 2) (M.t 3) (M.t 4) N s t
 win:∀v∈L,Z9 w v (M.b v.n) (M.c v.n) (M.g v.n) (M.pp v.par) (M.s v.n) (M.ptrs (zy L v.n))
 inj:M.inj L
 two:∀i,M.own L i->2<=i
section
variable {w w':World} {M:Mm} {L:List Wn} {last:Int} {N:Nat} {s:Rs} {t:Pt}
theorem zI.lt (h:zI w M L last N s t) {i:Nat} (hi:M.own L i):i<w.heap.size:=by
 obtain⟨p,hp,hb⟩:=hi;cases p with
 |top k=>
  obtain rfl:M.t k=i:=by simpa[Mm.blk] using hb
  have hk:k<5:=hp;match k,hk with
  |0,_=>exact(Array.getElem?_eq_some_iff.1 h.b0).1
  |1,_=>exact(Array.getElem?_eq_some_iff.1 h.b1).1
  |2,_=>exact h.scr.lt
  |3,_=>exact h.scr.gr.lt
  |4,_=>exact h.scr.gr.glt
 |win n k=>
  obtain⟨hk,v,hv,rfl⟩:=hp;have hw:=h.win v hv;match k,hk with
  |0,_=>
    obtain rfl:M.b v.n=i:=by simpa[Mm.blk] using hb
    exact hw.lt
  |1,_=>
    obtain rfl:M.c v.n=i:=by simpa[Mm.blk] using hb
    exact hw.gr.lt
  |2,_=>
    obtain rfl:M.g v.n=i:=by simpa[Mm.blk] using hb
    exact hw.gr.glt
  |3,_=>exact(Zw hw.row hb).1
theorem Zg (M:Mm) (L:List Wn) (k:Nat) (hk:k<5):M.own L (M.t k):=⟨.top k,hk,rfl⟩
theorem zgA (M:Mm) {L:List Wn} {v:Wn} (hv:v∈L):M.own L (M.b v.n):=⟨.win v.n 0,⟨by omega,v,hv,rfl⟩,rfl⟩
theorem zpI (M:Mm) {L:List Wn} {v:Wn} (hv:v∈L):M.own L (M.c v.n):=⟨.win v.n 1,⟨by omega,v,hv,rfl⟩,rfl⟩
theorem znd (M:Mm) {L:List Wn} {v:Wn} (hv:v∈L):M.own L (M.g v.n):=⟨.win v.n 2,⟨by omega,v,hv,rfl⟩,rfl⟩
theorem zht (M:Mm) {L:List Wn} {v:Wn} (hv:v∈L) {i:Nat} (hi:(M.s v.n).ownBlock=some i):M.own L i:=⟨.win v.n 3,⟨by omega,v,hv,rfl⟩,hi⟩
theorem zI.same (h:zI w M L last N s t) (hs:∀i,M.own L i->w'.heap[i]?=w.heap[i]?):zI w' M L last N s t:=
 ⟨by rw[hs _ (Zg M L 0 (by omega))];exact h.b0,by rw[hs _ (Zg M L 1 (by omega))];exact h.b1,
  h.scr.same (hs _ (Zg M L 2 (by omega))) (hs _ (Zg M L 3 (by omega))) (hs _ (Zg M L 4 (by omega))),
  λv hv=>(h.win v hv).same (hs _ (zgA M hv)) (hs _ (zpI M hv)) (hs _ (znd M hv)) (λi hi=>hs _ (zht M hv hi)),h.inj,h.two⟩
theorem zI.keep {F:Nat->Prop} (h:zI w M L last N s t) (k:zd F w w') (hF:∀i,M.own L i->¬F i):zI w' M L last N s t:=
 h.same (λi hi=>k.block i (h.lt hi) (hF i hi))
theorem zI.below (h:zI w M L last N s t) (hb:Below w.heap.size w w'):zI w' M L last N s t:=
 h.same (λi hi=>hb.block i (h.lt hi))
theorem zI.c0 (h:zI w M L last N s t):w.cell? ⟨M.t 0,0,none⟩=some (.pointer (some ⟨M.t 1,0,none⟩)):=za h.b0 0
theorem zI.d0 (h:zI w M L last N s t):w.cell? ⟨M.t 1,0,none⟩=some (M.ptr 0):=za h.b1 0
theorem zI.d1 (h:zI w M L last N s t):w.cell? ⟨M.t 1,1,none⟩=some (.int .i64 last):=za h.b1 1
theorem zI.d2 (h:zI w M L last N s t):w.cell? ⟨M.t 1,2,none⟩=some (.pointer (some ⟨M.t 2,0,none⟩)):=za h.b1 2
theorem zI.ne (h:zI w M L last N s t) {p q:Pl} {i j:Nat} (hp:p.ok L) (hq:q.ok L) (hi:M.blk p=some i) (hj:M.blk q=some j) (hpq:p≠q):i≠j:=λe=>hpq (h.inj p q i hp hq hi (e ▸ hj))
end
end
section
open Go.RowKit
attribute [local go_sem ↓] Go.wp_at_zero Go.wp_at_succ
theorem zdX {w:World} {base:Nat} {e:TypeId} {v:Value} {ks:List Value} (h:w.ownsRow base e 1 v ks.length ks):∃p cap,v=.slice p ks.length cap/\ks.length<=cap/\cap<=9223372036854775807/\∀j x,ks[j]?=some x->∃ib,p=some ⟨ib,0,none⟩/\w.cell? ⟨ib,j,none⟩=some x:=by
 rcases h.2 with⟨rfl,h0⟩|⟨g,cap,cur,rfl,h1,h2,h3,h4,h5,h6⟩
 ·refine⟨none,0,by rw[h0],by omega,by omega,λj x hx=>?_⟩;rw[List.length_eq_zero_iff.1 h0] at hx;simp at hx
 ·refine⟨some ⟨g,0,none⟩,cap,rfl,h3,h4,λj x hx=>⟨g,rfl,?_⟩⟩;rw[za h2];have hj:=(List.getElem?_eq_some_iff.1 hx).1;rw[Nat.mul_one] at h6;rw[←Array.getElem?_toList,←List.getElem?_take_of_lt hj,h6];exact hx
theorem Mm.ptrs_len (M:Mm) (l:List Wn):(M.ptrs l).length=l.length:=by simp[Mm.ptrs]
theorem Mm.ptrs_at {M:Mm} {l:List Wn} {j:Nat} {u:Wn} (h:l[j]?=some u):(M.ptrs l)[j]?=some (M.ptr u.n):=by simp[Mm.ptrs,h]
theorem ziI (M:Mm) (v:Wn) (ks:List Wn) (bn cn gn:Nat) (pp:Option Addr) (sv:Value) (num:Int) (r:Option Addr) (g:Wn->Bool) (w:World) (h:Z9 w v bn cn gn pp sv (M.ptrs ks)) (hr:v.n=num->r=some ⟨bn,0,none⟩) (hr0:r≠none) (res:Option Addr) (hres:res=if (decide (v.n=num)||ks.any g)=true then r else none)
 (hcall:∀u∈ks,Calls Tryz.prog 167 #[M.ptr u.n,.int .i64 num] w λe w'=>e=.returned (.pointer (if g u=true then r else none))/\w'=w):
 Calls Tryz.prog 167 #[.pointer (some ⟨bn,0,none⟩),.int .i64 num] w λe w'=>e=.returned (.pointer res)/\w'=w:=by
 have Hres:=zH hres;clear hres;have c0:=h.f0;have c6:=h.f6;obtain⟨p,cap,rfl,hcap,hmax,hcell⟩:=zdX h.row;have Hc:=zH hcell;have Hcall:=zH hcall;rw[M.ptrs_len] at *;clear h hcell hcall;by_cases h1:v.n=num
 ·obtain rfl:res=some ⟨bn,0,none⟩:=by rw[Hres.out,if_pos (by simp[h1]),hr h1]
  go_in;go_wp2_with fail;go_ret;exact⟨rfl,rfl⟩
 ·have Hr:=zH hr0;have hb:(v.n==num)=false:=by simp[h1]
  clear hr hr0;go_in;go_wp2_with fail;go_loopw[20] (λi wr=>∃k:Nat,k<=ks.length/\i=.int .i64 k/\(∀u∈ks.take k,g u=false)/\wr=w) (λi _=>ks.length-(intOf i).toNat)
  case atStart=>exact⟨0,by omega,rfl,by simp,rfl⟩
  case round=>
   obtain⟨k,hk,rfl,hg,rfl⟩:=hrel;by_cases hlt:k<ks.length
   ·obtain⟨u,hu⟩:∃u,ks[k]?=some u:=⟨_,List.getElem?_eq_getElem hlt⟩;obtain⟨ib,rfl,hc⟩:=Hc.out k _ (Mm.ptrs_at hu);have hum:=List.mem_of_getElem? hu;have hgs:ks.take (k+1)=ks.take k ++ [u]:=by rw[List.take_add_one,hu];rfl
    cases hgu:g u with
    |true=>
     obtain⟨a,ha⟩:∃a,r=some a:=Option.ne_none_iff_exists'.1 Hr.out;subst ha;obtain rfl:res=some a:=by rw[Hres.out,if_pos];rw[List.any_eq_true.2 ⟨u,hum,hgu⟩,Bool.or_true]
     go_wp2_with (first|(go_at_call 167;refine(Hcall.out u hum).mono ?_;rw[hgu];rintro e w' ⟨rfl,rfl⟩));go_ret;exact⟨rfl,rfl⟩
    |false=>
     go_wp2_with (first|(go_at_call 167;refine(Hcall.out u hum).mono ?_;rw[hgu];rintro e w' ⟨rfl,rfl⟩));go_roundw
     case rel=>
      refine⟨k+1,by omega,by simp,λx hx=>?_,trivial⟩;rw[hgs] at hx;rcases List.mem_append.1 hx with hx|hx
      ·exact hg x hx
      ·obtain rfl:x=u:=by simpa using hx
       exact hgu
     case measure=>simp[intOf];omega
   ·obtain rfl:k=ks.length:=by omega
    rw[List.take_length] at hg;have hn:ks.any g=false:=by
     rw[Bool.eq_false_iff];intro hx;obtain⟨u,hu,hgu⟩:=List.any_eq_true.1 hx;rw[hg u hu] at hgu;cases hgu
    obtain rfl:res=none:=by rw[Hres.out,if_neg];rw[hn,decide_eq_false h1];simp
    go_wp2_with fail;go_ret;exact⟨rfl,rfl⟩
theorem zvv {M:Mm} {L:List Wn} {last:Int} {N:Nat} {s:Rs} {t:Pt} {rk:Int->Nat} {K:Nat} (T:ZR L rk K) (num:Int) (w:World) (h:zI w M L last N s t):∀(f:Nat) (v:Wn),v∈L->K<=rk v.n+f →
 Calls Tryz.prog 167 #[M.ptr v.n,.int .i64 num] w λe w'=>e=.returned (.pointer (if zjz L f v.n num=true then some ⟨M.b num,0,none⟩ else none))/\w'=w:=by
 intro f;induction f with
 |zero=>
  intro v hv hk;have hn:=T.noKids (T.pos hv) (by omega);have:=ziI M v _ _ _ _ _ _ num (some ⟨M.b num,0,none⟩) (λ_=>false) w (h.win v hv) (λe=>by rw[e]) (by simp) _ rfl (λu hu=>by rw[hn] at hu;simp at hu);simpa[zjz,hn] using this
 |succ f ih=>
  intro v hv hk;refine ziI M v _ _ _ _ _ _ num (some ⟨M.b num,0,none⟩) (λu=>zjz L f u.n num) w (h.win v hv) (λe=>by rw[e]) (by simp) _ rfl (λu hu=>?_);obtain⟨hL,hp⟩:=Ze.1 hu;have:=(T.up u hL (by have:=T.pos hv;omega)).2;rw[hp] at this;exact ih u hL (by omega)
theorem zhu (M:Mm) (v:Wn) (ks:List Wn) (bn cn gn:Nat) (pp:Option Addr) (sv:Value) (g:Wn->Nat) (w:World) (h:Z9 w v bn cn gn pp sv (M.ptrs ks)) (hb:1+(ks.map g).sum<=1000)
 (hcall:∀u∈ks,Calls Tryz.prog 149 #[M.ptr u.n] w λe w'=>e=.returned (.int .i64 (g u))/\w'=w):
 Calls Tryz.prog 149 #[.pointer (some ⟨bn,0,none⟩)] w λe w'=>e=.returned (.int .i64 ((1+(ks.map g).sum:Nat):Int))/\w'=w:=by
 have c6:=h.f6;obtain⟨p,cap,rfl,hcap,hmax,hcell⟩:=zdX h.row;have Hc:=zH hcell;have Hcall:=zH hcall;rw[M.ptrs_len] at *;have Hb:=zH hb;clear h hcell hcall hb;go_in;go_wp2_with fail;go_loopw[3,11] (λa i wr=>∃k:Nat,k<=ks.length/\i=.int .i64 k/\a=.int .i64 ((1+((ks.take k).map g).sum:Nat):Int)/\wr=w) (λ_ i _=>ks.length-(intOf i).toNat)
 case atStart=>exact⟨0,by omega,rfl,by simp,rfl⟩
 case round=>
  obtain⟨k,hk,rfl,rfl,rfl⟩:=hrel;by_cases hlt:k<ks.length
  ·obtain⟨u,hu⟩:∃u,ks[k]?=some u:=⟨_,List.getElem?_eq_getElem hlt⟩;obtain⟨ib,rfl,hc⟩:=Hc.out k _ (Mm.ptrs_at hu);have hum:=List.mem_of_getElem? hu;have hgs:((ks.take (k+1)).map g).sum=((ks.take k).map g).sum+g u:=by rw[List.take_add_one,hu];simp
   have hle:((ks.take (k+1)).map g).sum<=(ks.map g).sum:=by
    conv=>rhs;rw[←List.take_append_drop (k+1) ks]
    rw[List.map_append,List.sum_append];omega
   have hb:=Hb.out;obtain⟨a,ha⟩:∃a,1+((ks.take k).map g).sum=a:=⟨_,rfl⟩;obtain⟨b,hb'⟩:∃b,g u=b:=⟨_,rfl⟩;have hw1:a+b<=1000:=by omega
   have hn:1+((ks.take (k+1)).map g).sum=a+b:=by omega
   have HN:=zH hn;rw[ha];have Hub:=zH hb';clear hn hle hgs ha hb' hb;go_wp2_with (first|(go_at_call 149;refine(Hcall.out u hum).mono ?_;rw[Hub.out];rintro e w' ⟨rfl,rfl⟩));go_roundw
   case rel=>exact⟨k+1,by omega,by simp,by rw[HN.out];simp,trivial⟩
   case measure=>simp[intOf];omega
  ·obtain rfl:k=ks.length:=by omega
   rw[List.take_length];go_wp2_with fail;go_ret;exact⟨rfl,rfl⟩
theorem zt1 {M:Mm} {L:List Wn} {last:Int} {N:Nat} {s:Rs} {t:Pt} {rk:Int->Nat} {K:Nat} (T:ZR L rk K) (w:World) (h:zI w M L last N s t) (hl:L.length<=16):∀(f:Nat) (v:Wn),v∈L->K<=rk v.n+f →
 Calls Tryz.prog 149 #[M.ptr v.n] w λe w'=>e=.returned (.int .i64 (zkp L f v.n:Int))/\w'=w:=by
 intro f;induction f with
 |zero=>
  intro v hv hk;have hn:=T.noKids (T.pos hv) (by omega);have:=zhu M v _ _ _ _ _ _ (λ_=>0) w (h.win v hv) (by rw[hn];simp) (λu hu=>by rw[hn] at hu;simp at hu);simpa[zkp,hn] using this
 |succ f ih=>
  intro v hv hk;have hc:=T.cntLe (f+1) v hv hk;refine zhu M v _ _ _ _ _ _ (λu=>zkp L f u.n) w (h.win v hv) (by simp only[zkp] at hc;omega) (λu hu=>?_);obtain⟨hL,hp⟩:=Ze.1 hu;have:=(T.up u hL (by have:=T.pos hv;omega)).2;rw[hp] at this;exact ih u hL (by omega)
end
section
def hit (x y:Int) (u:Wn):Bool:=u.sh&&inG u.W u.H (x-u.x) (y-u.y)
def zcw (L:List Wn) (n:Int) (x y:Int):Option Wn:=(zy L n).reverse.find? (hit x y)
def zaf (L:List Wn):Nat->Wn->Int->Int->Wn × Int × Int
 |0,v,x,y=>(v,x,y)
 |f+1,v,x,y=>match zcw L v.n x y with
  |none=>(v,x,y)
  |some u=>zaf L f u (x-u.x) (y-u.y)
theorem zcX {L:List Wn} {n x y:Int} {u:Wn} (h:zcw L n x y=some u):u∈L/\u.par=n/\u.sh=true/\inG u.W u.H (x-u.x) (y-u.y)=true:=by
 have h1:=List.find?_some h;have h2:=List.mem_of_find?_eq_some h;obtain⟨a,b⟩:=Ze.1 (List.mem_reverse.1 h2);simp only[hit,Bool.and_eq_true] at h1;exact⟨a,b,h1.1,h1.2⟩
theorem ZR.nextNone {L:List Wn} {rk:Int->Nat} {K:Nat} (T:ZR L rk K) {v:Wn} (hv:v∈L) (hk:K<=rk v.n) (x y:Int):zcw L v.n x y=none:=by
 unfold zcw;rw[T.noKids (T.pos hv) hk];rfl
theorem ZR.ownSucc {L:List Wn} {rk:Int->Nat} {K:Nat} (T:ZR L rk K) {v:Wn} (hv:v∈L) {f:Nat} (hk:K<=rk v.n+f) (x y:Int):zaf L f v x y=match zcw L v.n x y with
 |none=>(v,x,y)
 |some u=>zaf L (f-1) u (x-u.x) (y-u.y):=by
 cases f with
 |zero=>rw[T.nextNone hv (by omega)];rfl
 |succ f=>rfl
def za6 (L:List Wn) (K:Nat) (r o:Wn) (c:zk) (x y:Int):zk:=if inG r.W r.H x y=true/\(zaf L K r x y).1.n=o.n then c else blk c.n
def zcx (L:List Wn) (K:Nat) (r:Wn) (x y:Int):zk:=
 let o:=zaf L K r x y;let c:=o.1.G o.2.1.toNat o.2.2.toNat
 if c.p=1 then za6 L K r o.1 c (x+1) y else if c.p=2 then za6 L K r o.1 c (x-1) y else c
theorem ZR.ownIn {L:List Wn} {rk:Int->Nat} {K:Nat} (T:ZR L rk K):∀(f:Nat) (v:Wn) (x y:Int),v∈L->K<=rk v.n+f->inG v.W v.H x y=true->(zaf L f v x y).1∈L/\inG (zaf L f v x y).1.W (zaf L f v x y).1.H (zaf L f v x y).2.1 (zaf L f v x y).2.2=true:=by
 intro f;induction f with
 |zero=>intro v x y hv _ hi;exact⟨hv,hi⟩
 |succ f ih=>
  intro v x y hv hk hi;rw[T.ownSucc hv hk];cases hn:zcw L v.n x y with
  |none=>exact⟨hv,hi⟩
  |some u=>
   obtain⟨hu,hp,_,hui⟩:=zcX hn;have:=(T.up u hu (by have:=T.pos hv;omega)).2;rw[hp] at this;exact ih u _ _ hu (by omega) hui
end
end Go.Proofs.YtjlfibhbfdckpaaGreatDoor
