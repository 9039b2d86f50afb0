import Derived.Test.YtjlfibhbfdckpaaGreatDoorV11
import Derived.Lib.Join
import Derived.Lib.ItoaNum
namespace Go.Proofs.YtjlfibhbfdckpaaGreatDoor
set_option maxHeartbeats 64000000
set_option maxRecDepth 100000
section
def zbd:Option Nat->List UInt8
 |none=>[]
 |some n=>Lib.decDigits n
def zgY:Option Nat->Int
 |none=>0
 |some n=>n
def zaP (c:UInt8) (ts:List (Option Nat)):List UInt8:=[27,91]++Lib.join (ts.map zbd) [59] ++ [c]
def zbN (ts:List (Option Nat)):Prop:=∀n,some n∈ts->n<100
theorem ZS (s:Rs) (a b:List UInt8):zj s (a++b)=zj (zj s a) b:=List.foldl_append
theorem zeB (s:Rs) (c:UInt8):zj s [c]=za3 s c:=rfl
theorem zqo (s:Rs):zj s []=s:=rfl
theorem ziX {s:Rs} (hB:s.B=⟨#[]⟩):({s with B:=⟨#[]⟩}:Rs)=s:=by
 cases s;simp at hB;subst hB;rfl
theorem zsu (l:List UInt8) (h:∀c∈l,c.toNat=59\/(48<=c.toNat/\c.toNat<=57)):∀(s:Rs) (acc:List UInt8),s.B=⟨(27::91::acc).toArray⟩->zj s l={s with B:=⟨(27::91::(acc++l)).toArray⟩}:=by
 induction l with
 |nil=>
  intro s acc e;rw[List.append_nil,←e];rfl
 |cons c r ih=>
  intro s acc e;have hc:=h c (List.mem_cons_self ..);have h1:za3 s c={s with B:=⟨(27::91::(acc ++ [c])).toArray⟩}:=by
   unfold za3;rw[e];show zbW s acc c=_;unfold zbW;rw[if_neg (by omega),if_neg (by omega)];rfl
  show zj (za3 s c) r=_;rw[h1,ih (λd hd=>h d (List.mem_cons_of_mem _ hd)) _ (acc ++ [c]) rfl];simp
theorem zkU (s:Rs) (hB:s.B=⟨#[]⟩) (l:List UInt8) (h:∀c∈l,c.toNat=59\/(48<=c.toNat/\c.toNat<=57)) (c:UInt8) (h1:64<=c.toNat) (h2:c.toNat<=126):
 zj s ([27,91]++l ++ [c])=ze2 s ⟨l.toArray⟩ c.toNat:=by
 rw[ZS,ZS];have a:zj s [27,91]={s with B:=⟨#[27,91]⟩}:=by
  show za3 (za3 s 27) 91=_;have e1:za3 s 27={s with B:=⟨#[27]⟩}:=by
   unfold za3;rw[hB];rfl
  rw[e1];rfl
 rw[a,zsu l h _ [] rfl,zeB];unfold za3;show zbW _ l c=_;unfold zbW;rw[if_neg (by omega),if_pos (by omega)];congr 1;exact ziX hB
theorem znr {n:Nat} (h:n<10):Lib.decDigits n=[UInt8.ofNat (48+n)]:=by rw[Lib.decDigits,dif_pos h]
theorem zqp {n:Nat} (h:¬n<10) (h2:n<100):Lib.decDigits n=[UInt8.ofNat (48+n/10),UInt8.ofNat (48+n%10)]:=by
 rw[Lib.decDigits,dif_neg h,znr (by omega)];rfl
theorem u8n {n:Nat} (h:n<256):(UInt8.ofNat n).toNat=n:=by simp;omega
theorem zns {t:Option Nat} (h:∀n,t=some n->n<100):∀c∈zbd t,48<=c.toNat/\c.toNat<=57:=by
 intro c hc;cases t with
 |none=>cases hc
 |some n=>
  have hn:=h n rfl;by_cases h1:n<10
  ·simp only[zbd,znr h1,List.mem_singleton] at hc;subst hc;rw[u8n (by omega)];omega
  ·simp only[zbd,zqp h1 hn,List.mem_cons,List.not_mem_nil,or_false] at hc;rcases hc with rfl|rfl
   ·rw[u8n (by omega)];omega
   ·rw[u8n (by omega)];omega
theorem znt {t:Option Nat} (h:∀n,t=some n->n<100):(zbd t).length<=2:=by
 cases t with
 |none=>simp[zbd]
 |some n=>
  have hn:=h n rfl;by_cases h1:n<10
  ·simp[zbd,znr h1]
  ·simp[zbd,zqp h1 hn]
theorem zbN.head {t:Option Nat} {ts:List (Option Nat)} (h:zbN (t::ts)):∀n,t=some n->n<100:=λn e=>h n (by rw[e];exact List.mem_cons_self ..)
theorem zbN.tail {t:Option Nat} {ts:List (Option Nat)} (h:zbN (t::ts)):zbN ts:=λn e=>h n (List.mem_cons_of_mem _ e)
theorem zqq {ts:List (Option Nat)} (h:zbN ts):∀c∈Lib.joinTail [59] (ts.map zbd),c.toNat=59\/(48<=c.toNat/\c.toNat<=57):=by
 induction ts with
 |nil=>intro c hc;simp[Lib.joinTail] at hc
 |cons t r ih=>
  intro c hc;simp only[Lib.joinTail,List.map_cons,List.flatten_cons,List.mem_append,List.mem_singleton] at hc;rcases hc with(rfl|hc)|hc
  ·exact .inl rfl
  ·exact .inr (zns h.head c hc)
  ·exact ih h.tail c hc
theorem zqr {ts:List (Option Nat)} (h:zbN ts):∀c∈Lib.join (ts.map zbd) [59],c.toNat=59\/(48<=c.toNat/\c.toNat<=57):=by
 cases ts with
 |nil=>intro c hc;simp[Lib.join_nil] at hc
 |cons t r=>
  intro c hc;rw[List.map_cons,Lib.join_cons,List.mem_append] at hc;rcases hc with hc|hc
  ·exact .inr (zns h.head c hc)
  ·exact zqq h.tail c hc
theorem zfL {l:List Int} (h:l≠[]):zz l=l:=by unfold zz;rw[if_neg h]
theorem zg9 (l:List Int) (v:Int):l ++ [v]≠[]:=by simp
theorem zjR (l:List Int) (a v:Int):Z0 (l ++ [a]) v=l ++ [v]:=by
 unfold Z0;simp
theorem zkV (l:List Int) (a:Int):zbh (l ++ [a])=a:=by
 unfold zbh;simp
theorem zjS {l pre:List Int} {a:Int} (h:zz l=pre ++ [a]) (c:UInt8) (h1:48<=c.toNat) (h2:c.toNat<=57) (ha:0<=a) (hb:a<100):Z2 l c.toNat=some (pre ++ [10*a+((c.toNat:Int)-48)]):=by
 unfold Z2;rw[if_neg (by omega),if_pos (by omega),h,zjR,zkV];unfold zf4;rw[if_neg (by omega)]
theorem zkW {t:Option Nat} (h:∀n,t=some n->n<100) {l pre:List Int} (hl:zz l=pre ++ [0]):∃l',Zm (zbd t) l=some l'/\zz l'=pre ++ [zgY t]:=by
 cases t with
 |none=>exact⟨l,rfl,hl⟩
 |some n=>
  have hn:=h n rfl;by_cases h1:n<10
  ·refine⟨pre ++ [(n:Int)],?_,zfL (zg9 _ _)⟩;simp only[zbd,znr h1,Zm];rw[zjS hl _ (by rw[u8n (by omega)];omega) (by rw[u8n (by omega)];omega) (by omega) (by omega),u8n (by omega)];simp only[Option.some.injEq];congr 2;omega
  ·refine⟨pre ++ [(n:Int)],?_,zfL (zg9 _ _)⟩;simp only[zbd,zqp h1 hn,Zm];rw[zjS hl _ (by rw[u8n (by omega)];omega) (by rw[u8n (by omega)];omega) (by omega) (by omega),u8n (by omega)];simp only;rw[zjS (zfL (zg9 _ _)) _ (by rw[u8n (by omega)];omega) (by rw[u8n (by omega)];omega) (by omega) (by omega),u8n (by omega)];simp only[Option.some.injEq];congr 2;omega
theorem zou {ts:List (Option Nat)} (h:zbN ts):∀ {l vs:List Int},zz l=vs->∃l',Zm (Lib.joinTail [59] (ts.map zbd)) l=some l'/\zz l'=vs++ts.map zgY:=by
 induction ts with
 |nil=>intro l vs e;exact⟨l,rfl,by simpa using e⟩
 |cons t r ih=>
  intro l vs e;have hs:Z2 l ((59:UInt8).toNat:Int)=some (vs ++ [0]):=by
   unfold Z2;rw[if_pos (by decide),e]
  obtain⟨l1,e1,b1⟩:=zkW h.head (l:=vs ++ [0]) (pre:=vs) (zfL (zg9 _ _));obtain⟨l2,e2,b2⟩:=ih h.tail b1;refine⟨l2,?_,by rw[b2];simp⟩;have ej:Lib.joinTail [59] ((t::r).map zbd)=59::(zbd t++Lib.joinTail [59] (r.map zbd)):=by simp[Lib.joinTail]
  rw[ej];simp only[Zm];rw[hs];simp only;rw[zbB,e1];exact e2
theorem zov {t:Option Nat} {ts:List (Option Nat)} (h:zbN (t::ts)):∃l,zel ⟨(Lib.join ((t::ts).map zbd) [59]).toArray⟩=some l/\zz l=(t::ts).map zgY:=by
 obtain⟨l1,e1,b1⟩:=zkW h.head (l:=[]) (pre:=[]) rfl;obtain⟨l2,e2,b2⟩:=zou h.tail b1;refine⟨l2,?_,by rw[b2];rfl⟩;show Zm (Lib.join ((t::ts).map zbd) [59]) []=some l2;rw[List.map_cons,Lib.join_cons,zbB,e1];exact e2
theorem zjT (l:List Int):l.length<=(zz l).length:=by
 unfold zz;split
 ·rename_i e;rw[e];simp
 ·exact Nat.le_refl _
theorem zeC (l:List Int) (i:Nat):(zz l).getD i 0=l.getD i 0:=by
 unfold zz;split
 ·rename_i e;rw[e];cases i<;>simp
 ·rfl
theorem zbg {s:Rs} (hB:s.B=⟨#[]⟩) (c:UInt8) (h1:64<=c.toNat) (h2:c.toNat<=126) {t:Option Nat} {ts:List (Option Nat)} (h:zbN (t::ts)) (hl:(t::ts).length<=8):
 ∃l,zj s (zaP c (t::ts))=zJ s l c.toNat/\zz l=(t::ts).map zgY:=by
 obtain⟨l,e,b⟩:=zov h;refine⟨l,?_,b⟩;unfold zaP;rw[zkU s hB _ (zqr h) c h1 h2];unfold ze2;rw[e];simp only;rw[if_pos];have:=zjT l;rw[b] at this;simp at this hl;omega
theorem ziY {s:Rs} (hB:s.B=⟨#[]⟩) (c:UInt8) (h1:64<=c.toNat) (h2:c.toNat<=126):zj s (zaP c [])=zJ s [] c.toNat:=by
 unfold zaP;rw[zkU s hB _ (by intro c hc;simp[Lib.join_nil] at hc) c h1 h2];rfl
theorem zdl (c:UInt8) (t:Option Nat) (ts:List (Option Nat)) (h:zbN (t::ts)):(zaP c (t::ts)).length<=5+3*ts.length:=by
 have ht:=znt h.head;have htl:(Lib.joinTail [59] (ts.map zbd)).length<=3*ts.length:=by
  have h':=h.tail;clear h ht;induction ts with
  |nil=>simp[Lib.joinTail]
  |cons t r ih=>
   have:=znt h'.head;have:=ih h'.tail;simp only[Lib.joinTail,List.map_cons,List.flatten_cons,List.length_append,List.length_cons,List.length_nil] at *;omega
 simp only[zaP,List.map_cons,Lib.join_cons,List.length_append,List.length_cons,List.length_nil];omega
theorem zhO (c:UInt8):(zaP c []).length=3:=rfl
end
section
open Wd (wd)
def Pn.eqB (a b:Pn):Bool:=decide (a.f=b.f)&&decide (a.b=b.b)&&(a.bo==b.bo)&&(a.un==b.un)&&(a.re==b.re)
theorem Pn.eqB_iff {a b:Pn}:a.eqB b=true↔a=b:=by
 obtain⟨f,g,x,y,z⟩:=a;obtain⟨f',g',x',y',z'⟩:=b;simp[Pn.eqB,and_assoc]
theorem Pn.eqB_not {a b:Pn}:a.eqB b=false↔a≠b:=by
 rw[←Bool.not_eq_true,Pn.eqB_iff]
def zk.eqB (a b:zk):Bool:=decide (a.r=b.r)&&decide (a.p=b.p)&&a.n.eqB b.n
theorem zk.eqB_iff {a b:zk}:a.eqB b=true↔a=b:=by
 obtain⟨r,p,n⟩:=a;obtain⟨r',p',n'⟩:=b;simp[zk.eqB,and_assoc,Pn.eqB_iff]
theorem zk.eqB_not {a b:zk}:a.eqB b=false↔a≠b:=by
 rw[←Bool.not_eq_true,zk.eqB_iff]
def zb7 (n:Int):Option Nat:=if n=1 then none else some n.toNat
def Zy (by_:Int) (onward back:UInt8):List UInt8:=if by_<0 then zaP back [zb7 (-by_)] else zaP onward [zb7 by_]
def zag (x y:Int):List UInt8:=if x=0 then zaP 72 [zb7 (y+1)] else zaP 72 [zb7 (y+1),zb7 (x+1)]
theorem zcn {n:Int} (h:1<=n):Zu (zgY (zb7 n))=n:=by
 unfold zb7;by_cases e:n=1
 ·rw[if_pos e,e];rfl
 ·rw[if_neg e];show Zu (n.toNat:Int)=n;unfold Zu;rw[if_neg (by omega)];omega
theorem ZD {n:Int} (h:n<100) {ts:List (Option Nat)} (ht:zbN ts):zbN (zb7 n::ts):=by
 intro m hm;rcases List.mem_cons.1 hm with e|e
 ·unfold zb7 at e;split at e
  ·cases e
  ·cases e;omega
 ·exact ht m e
theorem Z3:zbN []:=λn h=>by cases h
theorem zf9 {v:Int} {m:Nat} (h0:0<=v) (h1:v<m):zap v m=v:=by
 unfold zap;rw[if_neg (by omega),if_neg (by omega)]
theorem zco {s:Rs} {x y:Int} (x0:0<=x) (x1:x<s.W) (y0:0<=y) (y1:y<s.H):ZQ s x y={s with x:=x,y:=y,pend:=false}:=by
 unfold ZQ;rw[zf9 x0 x1,zf9 y0 y1]
theorem zfM {l:List Int} {a:Int} {r:List Int} (h:zz l=a::r):l.getD 0 0=a:=by
 rw[←zeC,h];rfl
theorem zvJ {l:List Int} {a b:Int} {r:List Int} (h:zz l=a::b::r):l.getD 1 0=b:=by
 rw[←zeC,h];rfl
theorem zuk {l:List Int} {a:Int} (h:zz l=[a]):l.getD 1 0=0:=by
 rw[←zeC,h];rfl
theorem zhP {s:Rs} (hB:s.B=⟨#[]⟩) {x y:Int} (x0:0<=x) (x1:x<s.W) (y0:0<=y) (y1:y<s.H) (hW:s.W<=40) (hH:s.H<=20):
 zj s (zag x y)={s with x:=x,y:=y,pend:=false}:=by
 unfold zag;by_cases hx:x=0
 ·rw[if_pos hx];obtain⟨l,e,b⟩:=zbg hB 72 (by decide) (by decide) (ZD (n:=y+1) (by omega) Z3) (by simp);rw[e];have g0:=zfM b;have g1:=zuk b;unfold zJ;simp only[g0,g1];rw[zcn (by omega)];have:Zu 0=1:=rfl;simp[this];rw[hx] at *;rw[zco (by omega) (by omega) (by omega) (by omega)]
 ·rw[if_neg hx];obtain⟨l,e,b⟩:=zbg hB 72 (by decide) (by decide) (ZD (n:=y+1) (by omega) (ZD (n:=x+1) (by omega) Z3)) (by simp);rw[e];have g0:=zfM b;have g1:=zvJ b;unfold zJ;simp only[g0,g1];rw[zcn (by omega),zcn (by omega)];simp;rw[zco (by omega) (by omega) (by omega) (by omega)]
theorem zga {x y:Int} (x1:x<40) (y1:y<20):(zag x y).length<=8:=by
 unfold zag;by_cases hx:x=0
 ·rw[if_pos hx];have:=zdl 72 _ _ (ZD (n:=y+1) (by omega) Z3);simp at this;omega
 ·rw[if_neg hx];have:=zdl 72 _ _ (ZD (n:=y+1) (by omega) (ZD (n:=x+1) (by omega) Z3));simp at this;omega
theorem zow {s:Rs} (hB:s.B=⟨#[]⟩) {y:Int} (x0:0<=s.x) (x1:s.x<s.W) (sy0:0<=s.y) (sy1:s.y<s.H) (y0:0<=y) (y1:y<s.H) (hH:s.H<=20) (hne:s.y≠y):
 zj s (Zy (y-s.y) 66 65)={s with y:=y,pend:=false}:=by
 unfold Zy;by_cases hn:y-s.y<0
 ·rw[if_pos hn];obtain⟨l,e,b⟩:=zbg hB 65 (by decide) (by decide) (ZD (n:=-(y-s.y)) (by omega) Z3) (by simp);rw[e];have g0:=zfM b;unfold zJ;simp only[g0];rw[zcn (by omega)];simp;rw[zco (by omega) (by omega) (by omega) (by omega)];congr 1;omega
 ·rw[if_neg hn];obtain⟨l,e,b⟩:=zbg hB 66 (by decide) (by decide) (ZD (n:=y-s.y) (by omega) Z3) (by simp);rw[e];have g0:=zfM b;unfold zJ;simp only[g0];rw[zcn (by omega)];simp;rw[zco (by omega) (by omega) (by omega) (by omega)];congr 1;omega
theorem zmt {s:Rs} (hB:s.B=⟨#[]⟩) {x:Int} (sx0:0<=s.x) (sx1:s.x<s.W) (sy0:0<=s.y) (sy1:s.y<s.H) (x0:0<=x) (x1:x<s.W) (hW:s.W<=40) (hne:s.x≠x):
 zj s (Zy (x-s.x) 67 68)={s with x:=x,pend:=false}:=by
 unfold Zy;by_cases hn:x-s.x<0
 ·rw[if_pos hn];obtain⟨l,e,b⟩:=zbg hB 68 (by decide) (by decide) (ZD (n:=-(x-s.x)) (by omega) Z3) (by simp);rw[e];have g0:=zfM b;unfold zJ;simp only[g0];rw[zcn (by omega)];simp;rw[zco (by omega) (by omega) (by omega) (by omega)];congr 1;omega
 ·rw[if_neg hn];obtain⟨l,e,b⟩:=zbg hB 67 (by decide) (by decide) (ZD (n:=x-s.x) (by omega) Z3) (by simp);rw[e];have g0:=zfM b;unfold zJ;simp only[g0];rw[zcn (by omega)];simp;rw[zco (by omega) (by omega) (by omega) (by omega)];congr 1;omega
theorem zkX {s:Rs} (hB:s.B=⟨#[]⟩) {n:Int} (h0:n≠0) (h1:-100<n) (h2:n<100):
 zj s (Zy n 83 84)={s with G:=zo s.top s.bot n (zS s) s.G}:=by
 unfold Zy;by_cases hn:n<0
 ·rw[if_pos hn];obtain⟨l,e,b⟩:=zbg hB 84 (by decide) (by decide) (ZD (n:=-n) (by omega) Z3) (by simp);rw[e];have g0:=zfM b;unfold zJ;simp only[g0];rw[zcn (by omega)];simp
 ·rw[if_neg hn];obtain⟨l,e,b⟩:=zbg hB 83 (by decide) (by decide) (ZD (n:=n) (by omega) Z3) (by simp);rw[e];have g0:=zfM b;unfold zJ;simp only[g0];rw[zcn (by omega)];simp
theorem zgb {n:Int} (h1:-100<n) (h2:n<100) (a b:UInt8):(Zy n a b).length<=5:=by
 unfold Zy;split
 ·have:=zdl b _ _ (ZD (n:=-n) (by omega) Z3);simpa using this
 ·have:=zdl a _ _ (ZD (n:=n) (by omega) Z3);simpa using this
def ZV (was is:Bool) (on off:Nat):List (Option Nat):=if is=true/\was=false then[some on] else if was=true/\is=false then[some off] else[]
def zbO (was is:Int) (first:Nat):List (Option Nat):=if is=was then[] else if is=0 then[some (first+9)] else[some (first+is.toNat-1)]
def zbe (a b:Pn):List (Option Nat):=ZV a.bo b.bo 1 22++ZV a.un b.un 4 24++ZV a.re b.re 7 27++zbO a.f b.f 30++zbO a.b b.b 40
def zcD (a b:Pn):List UInt8:=
 if a.eqB b=true then[] else if (zaP 109 (none::zbe Pn.plain b)).length<(zaP 109 (zbe a b)).length then zaP 109 (none::zbe Pn.plain b) else zaP 109 (zbe a b)
def Pn.Ok (p:Pn):Prop:=0<=p.f/\p.f<=8/\0<=p.b/\p.b<=8
theorem zgc (was is:Bool) {on off:Nat} (h1:on<100) (h2:off<100):zbN (ZV was is on off):=by
 intro n hn;unfold ZV at hn;split at hn
 ·simp at hn;omega
 ·split at hn
  ·simp at hn;omega
  ·cases hn
theorem zhQ (was:Int) {is:Int} {first:Nat} (h0:0<=is) (h1:is<=8) (h2:first<50):zbN (zbO was is first):=by
 intro n hn;unfold zbO at hn;split at hn
 ·cases hn
 ·split at hn
  ·simp at hn;omega
  ·simp at hn;omega
theorem zc5 {a b:List (Option Nat)} (ha:zbN a) (hb:zbN b):zbN (a++b):=λn hn=>by
 rcases List.mem_append.1 hn with e|e
 ·exact ha n e
 ·exact hb n e
theorem zdH (was is:Bool) (on off:Nat):(ZV was is on off).length<=1:=by
 unfold ZV;split
 ·simp
 ·split<;>simp
theorem zfN (was is:Int) (first:Nat):(zbO was is first).length<=1:=by
 unfold zbO;split
 ·simp
 ·split<;>simp
theorem zdI (a:Pn) {b:Pn} (hb:b.Ok):zbN (zbe a b)/\(zbe a b).length<=5:=by
 obtain⟨h1,h2,h3,h4⟩:=hb;refine⟨zc5 (zc5 (zc5 (zc5 (zgc _ _ (by omega) (by omega)) (zgc _ _ (by omega) (by omega))) (zgc _ _ (by omega) (by omega))) (zhQ _ h1 h2 (by omega))) (zhQ _ h3 h4 (by omega)),?_⟩;have a1:=zdH a.bo b.bo 1 22;have a2:=zdH a.un b.un 4 24;have a3:=zdH a.re b.re 7 27;have a4:=zfN a.f b.f 30;have a5:=zfN a.b b.b 40;simp only[zbe,List.length_append];omega
theorem zgd (p:Pn) (was is:Bool) (on off:Nat) (st:Bool->Pn) (h1:zdb p on=st true) (h2:zdb p off=st false) (h3:p=st was):((ZV was is on off).map zgY).foldl zdb p=st is:=by
 unfold ZV;cases was<;>cases is<;>simp[zgY,h1,h2,←h3]
theorem zmu (p:Pn) {is:Int} (h0:0<=is) (h1:is<=8):((zbO p.f is 30).map zgY).foldl zdb p={p with f:=is}:=by
 unfold zbO;by_cases e:is=p.f
 ·rw[if_pos e,e];rfl
 ·rw[if_neg e];by_cases e0:is=0
  ·rw[if_pos e0,e0];rfl
  ·rw[if_neg e0];show zdb p ((30+is.toNat-1:Nat):Int)=_;have e1:((30+is.toNat-1:Nat):Int)=29+is:=by omega
   rw[e1];unfold zdb
   iterate 9 rw[if_neg (by omega)]
   rw[if_pos (by omega)];congr 1;omega
theorem zox (p:Pn) {is:Int} (h0:0<=is) (h1:is<=8):((zbO p.b is 40).map zgY).foldl zdb p={p with b:=is}:=by
 unfold zbO;by_cases e:is=p.b
 ·rw[if_pos e,e];rfl
 ·rw[if_neg e];by_cases e0:is=0
  ·rw[if_pos e0,e0];rfl
  ·rw[if_neg e0];show zdb p ((40+is.toNat-1:Nat):Int)=_;have e1:((40+is.toNat-1:Nat):Int)=39+is:=by omega
   rw[e1];unfold zdb
   iterate 10 rw[if_neg (by omega)]
   rw[if_pos (by omega)];congr 1;omega
theorem zkY (a:Pn) {b:Pn} (hb:b.Ok):((zbe a b).map zgY).foldl zdb a=b:=by
 obtain⟨h1,h2,h3,h4⟩:=hb;simp only[zbe,List.map_append,List.foldl_append];rw[zgd a a.bo b.bo 1 22 (λv=>{a with bo:=v}) rfl rfl rfl];rw[zgd {a with bo:=b.bo} a.un b.un 4 24 (λv=>{a with bo:=b.bo,un:=v}) rfl rfl rfl];rw[zgd {a with bo:=b.bo,un:=b.un} a.re b.re 7 27 (λv=>{a with bo:=b.bo,un:=b.un,re:=v}) rfl rfl rfl];have e1:=zmu {a with bo:=b.bo,un:=b.un,re:=b.re} h1 h2;simp only at e1;rw[e1];have e2:=zox {a with bo:=b.bo,un:=b.un,re:=b.re,f:=b.f} h3 h4;simp only at e2;rw[e2]
theorem zqs {a b:Pn} (h:a≠b):zbe a b≠[]:=by
 intro e;apply h;have h1:∀ {x y:Bool} {m n:Nat},ZV x y m n=[]->x=y:=by
  intro x y m n q;unfold ZV at q;cases x<;>cases y<;>simp at q ⊢
 have h2:∀ {x y:Int} {m:Nat},zbO x y m=[]->x=y:=by
  intro x y m q;unfold zbO at q;split at q
  ·rename_i r;exact r.symm
  ·split at q<;>cases q
 simp only[zbe,List.append_eq_nil_iff] at e;obtain⟨⟨⟨⟨a1,a2⟩,a3⟩,a4⟩,a5⟩:=e;obtain⟨f,g,x,y,z⟩:=a;obtain⟨f',g',x',y',z'⟩:=b;have:=h1 a1;have:=h1 a2;have:=h1 a3;have:=h2 a4;have:=h2 a5;simp_all
theorem ziZ {s:Rs} (hB:s.B=⟨#[]⟩) {ts:List (Option Nat)} (hne:ts≠[]) (h:zbN ts) (hl:ts.length<=8):zj s (zaP 109 ts)={s with pen:=(ts.map zgY).foldl zdb s.pen}:=by
 cases ts with
 |nil=>exact absurd rfl hne
 |cons t r=>
  obtain⟨l,e,b⟩:=zbg hB 109 (by decide) (by decide) h hl;rw[e];unfold zJ;simp[zdf,b]
theorem zfO {s:Rs} (hB:s.B=⟨#[]⟩) {b:Pn} (hb:b.Ok):zj s (zcD s.pen b)={s with pen:=b}:=by
 unfold zcD;by_cases e:s.pen.eqB b=true
 ·rw[if_pos e,←Pn.eqB_iff.1 e];rfl
 ·rw[if_neg e];have hne:s.pen≠b:=λq=>e (Pn.eqB_iff.2 q);obtain⟨t1,l1⟩:=zdI s.pen hb;obtain⟨t2,l2⟩:=zdI Pn.plain hb;split
  ·rw[ziZ (ts:=none::zbe Pn.plain b) hB (by simp) (zc5 (a:=[none]) (λn hn=>by simp at hn) t2) (by simp;omega)];have:((none::zbe Pn.plain b).map zgY).foldl zdb s.pen=b:=zkY Pn.plain hb;rw[this]
  ·rw[ziZ hB (zqs hne) t1 (by omega),zkY s.pen hb]
theorem zoy (a:Pn):zcD a a=[]:=by unfold zcD;rw[if_pos (Pn.eqB_iff.2 rfl)]
theorem zkZ (a:Pn) {b:Pn} (hb:b.Ok):(zcD a b).length<=20:=by
 unfold zcD;split
 ·simp
 ·obtain⟨t2,l2⟩:=zdI Pn.plain hb;obtain⟨t1,l1⟩:=zdI a hb;have h1:=zdl 109 none (zbe Pn.plain b) (zc5 (a:=[none]) (λn hn=>by simp at hn) t2);split
  ·omega
  ·omega
theorem zoz (x:Bool) (m n:Nat):ZV x x m n=[]:=by unfold ZV;cases x<;>simp
theorem zqt (x:Int) (m:Nat):zbO x x m=[]:=by unfold zbO;rw[if_pos rfl]
theorem zoA (a:Pn) {v:Int} (h0:0<=v) (h1:v<=8):(zcD a {a with b:=v}).length<=5:=by
 have e:zbe a {a with b:=v}=zbO a.b v 40:=by simp[zbe,zoz,zqt]
 have hl:(zaP 109 (zbe a {a with b:=v})).length<=5:=by
  rw[e];have ht:=zhQ a.b h0 h1 (first:=40) (by omega);have hc:=zfN a.b v 40;generalize zbO a.b v 40=ts at *;match ts,hc with
  |[],_=>rw[zhO];omega
  |[t],_=>have:=zdl 109 t [] ht;simpa using this
 unfold zcD;split
 ·simp
 ·split
  ·omega
  ·exact hl
def zdd (r:Int):List UInt8:=(Utf8.encode r).data.toList
theorem zqu {r:Int} (h:wd r≠0):Wd.validB r=true/\32<=r/\Wd.inB r 127 159=false:=by
 unfold wd at h;by_cases z:Wd.zeroB r=true
 ·rw[if_pos z] at h;exact absurd rfl h
 ·simp only[Wd.zeroB,Bool.or_eq_true,Bool.not_eq_true',decide_eq_true_eq,not_or,Bool.not_eq_false,Bool.not_eq_true] at z;obtain⟨⟨⟨⟨a,b⟩,c⟩,_⟩,_⟩:=z;exact⟨a,by omega,c⟩
theorem zul {r:Int} (h:Wd.validB r=true):Utf8.valid r=true/\0<=r:=by
 simp only[Wd.validB,Wd.inB,Bool.or_eq_true,Bool.and_eq_true,decide_eq_true_eq] at h;refine⟨?_,by omega⟩;simp only[Utf8.valid,Bool.or_eq_true,Bool.and_eq_true,decide_eq_true_eq];omega
def zjU (c:Nat):List UInt8:=
 if c<128 then[UInt8.ofNat c] else if c<2048 then[UInt8.ofNat (192+c/64),UInt8.ofNat (128+c%64)]
 else if c<65536 then[UInt8.ofNat (224+c/4096),UInt8.ofNat (128+c/64%64),UInt8.ofNat (128+c%64)]
 else[UInt8.ofNat (240+c/262144),UInt8.ofNat (128+c/4096%64),UInt8.ofNat (128+c/64%64),UInt8.ofNat (128+c%64)]
def zsv (c:Nat):ByteArray:=
 if c<128 then⟨#[UInt8.ofNat c]⟩ else if c<2048 then⟨#[UInt8.ofNat (192+c/64),UInt8.ofNat (128+c%64)]⟩
 else if c<65536 then⟨#[UInt8.ofNat (224+c/4096),UInt8.ofNat (128+c/64%64),UInt8.ofNat (128+c%64)]⟩
 else⟨#[UInt8.ofNat (240+c/262144),UInt8.ofNat (128+c/4096%64),UInt8.ofNat (128+c/64%64),UInt8.ofNat (128+c%64)]⟩
theorem zoB (c:Nat):(zsv c).data.toList=zjU c:=by
 unfold zsv zjU;split
 ·rfl
 ·split
  ·rfl
  ·split<;>rfl
theorem zsw (r:Int):Utf8.encode r=zsv (if Utf8.valid r=true then r.toNat else Utf8.runeError):=rfl
theorem zsx {b:Bool} (hb:b=true) (x y z:Nat) (h:x=z):(zsv (if b=true then x else y)).data.toList=zjU z:=by
 rw[if_pos hb,zoB,h]
theorem zsy {r:Int} {c:Nat} (hv:Utf8.valid r=true) (h:r.toNat=c):zdd r=zjU c:=by
 unfold zdd;rw[zsw];exact zsx hv _ _ _ h
theorem zha {c:Nat} (hv:Utf8.valid c=true):zdd c=zjU c:=zsy hv (Int.toNat_natCast c)
theorem zwG {c:Nat} (hv:Utf8.valid c=true) (h:c<128):zdd c=[UInt8.ofNat c]:=by
 rw[zha hv];unfold zjU;rw[if_pos h]
theorem zwH {c:Nat} (hv:Utf8.valid c=true) (h0:¬c<128) (h:c<2048):zdd c=[UInt8.ofNat (192+c/64),UInt8.ofNat (128+c%64)]:=by
 rw[zha hv];unfold zjU;rw[if_neg h0,if_pos h]
theorem zwI {c:Nat} (hv:Utf8.valid c=true) (h0:¬c<128) (h1:¬c<2048) (h:c<65536):zdd c=[UInt8.ofNat (224+c/4096),UInt8.ofNat (128+c/64%64),UInt8.ofNat (128+c%64)]:=by
 rw[zha hv];unfold zjU;rw[if_neg h0,if_neg h1,if_pos h]
theorem zwJ {c:Nat} (hv:Utf8.valid c=true) (h0:¬c<128) (h1:¬c<2048) (h:¬c<65536):zdd c=[UInt8.ofNat (240+c/262144),UInt8.ofNat (128+c/4096%64),UInt8.ofNat (128+c/64%64),UInt8.ofNat (128+c%64)]:=by
 rw[zha hv];unfold zjU;rw[if_neg h0,if_neg h1,if_neg h]
theorem zeD {s:Rs} (hB:s.B=⟨#[]⟩) (a:UInt8) (h:0<zQ a.toNat):za3 s a={s with B:=⟨#[a]⟩}:=by
 have ha:194<=a.toNat:=by
  rcases Zk a.toNat with q|q|q|q
  ·omega
  ·omega
  ·omega
  ·omega
 unfold za3;rw[hB];show zw s a=_;unfold zw;rw[if_neg (by omega),if_neg (by omega),if_neg (by omega),if_neg (by omega),if_neg (by omega),if_pos h]
theorem zge {s:Rs} {a:UInt8} {l:List UInt8} (hB:s.B=⟨(a::l).toArray⟩) (ha:a≠27) (c:UInt8):za3 s c=zbc s a l c:=by
 unfold za3;rw[hB];show(if a=27 then _ else zbc s a l c)=_;rw[if_neg ha]
theorem zgI {s:Rs} (hB:s.B=⟨#[]⟩) {r:Int} (h:wd r≠0):zj s (zdd r)=zba s r:=by
 obtain⟨hv,h32,hc1⟩:=zqu h;obtain⟨hv',h0⟩:=zul hv;simp only[Wd.inB,Bool.and_eq_false_iff,decide_eq_false_iff_not] at hc1;simp only[Wd.validB,Wd.inB,Bool.or_eq_true,Bool.and_eq_true,decide_eq_true_eq] at hv;obtain⟨c,rfl⟩:=Int.eq_ofNat_of_zero_le h0;have hE:=ziX hB;by_cases c1:c<128
 ·rw[zwG hv' c1,zeB];unfold za3;rw[hB];show zw s _=_;unfold zw;rw[u8n (by omega),if_neg (by omega),if_neg (by omega),if_neg (by omega),if_neg (by omega),if_pos (by omega)]
 ·by_cases c2:c<2048
  ·rw[zwH hv' c1 c2];have ea:(UInt8.ofNat (192+c/64)).toNat=192+c/64:=u8n (by omega);have eb:(UInt8.ofNat (128+c%64)).toNat=128+c%64:=u8n (by omega);generalize UInt8.ofNat (192+c/64)=a at *;generalize UInt8.ofNat (128+c%64)=b at *;have l2:zQ (a.toNat:Int)=2:=by unfold zQ;rw[if_pos (by omega)]
   have hne:a≠27:=λq=>by rw[q] at ea;revert ea;show(27:Nat)=_->False;omega
   show za3 (za3 s a) b=_;rw[zeD hB a (by omega),zge (s:={s with B:=⟨#[a]⟩}) (l:=[]) rfl hne b];unfold zbc;have g:zq [a] (b.toNat:Int)=true:=by
    unfold zq zbb Z6;simp only[Bool.and_eq_true,decide_eq_true_eq];rw[if_neg (by omega),if_neg (by omega),if_neg (by omega),if_neg (by omega)];omega
   rw[if_neg (by rw[g];simp),if_pos (by rw[l2];rfl)];show zba {s with B:=⟨#[]⟩} (Zn [a,b])=_;rw[hE];have el:Zn [a,b]=(c:Int):=by
    show 64*((a.toNat:Int)-192)+b.toNat-128=(c:Int);omega
   rw[el]
  ·by_cases c3:c<65536
   ·rw[zwI hv' c1 c2 c3];have ea:(UInt8.ofNat (224+c/4096)).toNat=224+c/4096:=u8n (by omega);have eb:(UInt8.ofNat (128+c/64%64)).toNat=128+c/64%64:=u8n (by omega);have ed:(UInt8.ofNat (128+c%64)).toNat=128+c%64:=u8n (by omega);generalize UInt8.ofNat (224+c/4096)=a at *;generalize UInt8.ofNat (128+c/64%64)=b at *;generalize UInt8.ofNat (128+c%64)=d at *;have l2:zQ (a.toNat:Int)=3:=by unfold zQ;rw[if_neg (by omega),if_pos (by omega)]
    have hne:a≠27:=λq=>by rw[q] at ea;revert ea;show(27:Nat)=_->False;omega
    show za3 (za3 (za3 s a) b) d=_;rw[zeD hB a (by omega),zge (s:={s with B:=⟨#[a]⟩}) (l:=[]) rfl hne b];have g:zq [a] (b.toNat:Int)=true:=by
     unfold zq zbb Z6;simp only[Bool.and_eq_true,decide_eq_true_eq];constructor
     ·split
      ·omega
      ·rw[if_neg (by omega)];omega
     ·split
      ·omega
      ·rw[if_neg (by omega)];omega
    have e1:zbc {s with B:=⟨#[a]⟩} a [] b={s with B:=⟨#[a,b]⟩}:=by
     unfold zbc;rw[if_neg (by rw[g];simp),if_neg (by rw[l2];simp)];rfl
    rw[e1,zge (s:={s with B:=⟨#[a,b]⟩}) (l:=[b]) rfl hne d];have g2:zq [a,b] (d.toNat:Int)=true:=by
     show(decide (128<=(d.toNat:Int))&&decide ((d.toNat:Int)<=191))=true;simp;omega
    unfold zbc;rw[if_neg (by rw[g2];simp),if_pos (by rw[l2];rfl)];show zba {s with B:=⟨#[]⟩} (Zn [a,b,d])=_;rw[hE];have el:Zn [a,b,d]=(c:Int):=by
     show 64*(64*((a.toNat:Int)-224)+b.toNat-128)+d.toNat-128=(c:Int);omega
    rw[el]
   ·rw[zwJ hv' c1 c2 c3];have ea:(UInt8.ofNat (240+c/262144)).toNat=240+c/262144:=u8n (by omega);have eb:(UInt8.ofNat (128+c/4096%64)).toNat=128+c/4096%64:=u8n (by omega);have ed:(UInt8.ofNat (128+c/64%64)).toNat=128+c/64%64:=u8n (by omega);have ef:(UInt8.ofNat (128+c%64)).toNat=128+c%64:=u8n (by omega);generalize UInt8.ofNat (240+c/262144)=a at *;generalize UInt8.ofNat (128+c/4096%64)=b at *;generalize UInt8.ofNat (128+c/64%64)=d at *;generalize UInt8.ofNat (128+c%64)=f at *;have l2:zQ (a.toNat:Int)=4:=by unfold zQ;rw[if_neg (by omega),if_neg (by omega),if_pos (by omega)]
    have hne:a≠27:=λq=>by rw[q] at ea;revert ea;show(27:Nat)=_->False;omega
    show za3 (za3 (za3 (za3 s a) b) d) f=_;rw[zeD hB a (by omega),zge (s:={s with B:=⟨#[a]⟩}) (l:=[]) rfl hne b];have g:zq [a] (b.toNat:Int)=true:=by
     unfold zq zbb Z6;simp only[Bool.and_eq_true,decide_eq_true_eq];constructor
     ·rw[if_neg (by omega)];split
      ·omega
      ·omega
     ·rw[if_neg (by omega)];split
      ·omega
      ·omega
    have e1:zbc {s with B:=⟨#[a]⟩} a [] b={s with B:=⟨#[a,b]⟩}:=by
     unfold zbc;rw[if_neg (by rw[g];simp),if_neg (by rw[l2];simp)];rfl
    rw[e1,zge (s:={s with B:=⟨#[a,b]⟩}) (l:=[b]) rfl hne d];have g2:zq [a,b] (d.toNat:Int)=true:=by
     show(decide (128<=(d.toNat:Int))&&decide ((d.toNat:Int)<=191))=true;simp;omega
    have e2:zbc {s with B:=⟨#[a,b]⟩} a [b] d={s with B:=⟨#[a,b,d]⟩}:=by
     unfold zbc;rw[if_neg (by rw[g2];simp),if_neg (by rw[l2];simp)];rfl
    rw[e2,zge (s:={s with B:=⟨#[a,b,d]⟩}) (l:=[b,d]) rfl hne f];have g3:zq [a,b,d] (f.toNat:Int)=true:=by
     show(decide (128<=(f.toNat:Int))&&decide ((f.toNat:Int)<=191))=true;simp;omega
    unfold zbc;rw[if_neg (by rw[g3];simp),if_pos (by rw[l2];rfl)];show zba {s with B:=⟨#[]⟩} (Zn [a,b,d,f])=_;rw[hE];have el:Zn [a,b,d,f]=(c:Int):=by
     show 64*(64*(64*((a.toNat:Int)-240)+b.toNat-128)+d.toNat-128)+f.toNat-128=(c:Int);omega
    rw[el]
theorem znu (r:Int):(zdd r).length<=4:=by
 unfold zdd Utf8.encode;simp only
 repeat' split
 all_goals simp
theorem zsz {s:Rs} (hB:s.B=⟨#[]⟩):zj s [13]=ZQ s 0 s.y:=by
 rw[zeB];unfold za3;rw[hB];rfl
theorem zsA {s:Rs} (hB:s.B=⟨#[]⟩):zj s [10]=zt s:=by
 rw[zeB];unfold za3;rw[hB];rfl
theorem zsB {s:Rs} (hB:s.B=⟨#[]⟩):zj s [8]=ZQ s (s.x-1) s.y:=by
 rw[zeB];unfold za3;rw[hB];rfl
theorem zk0 {W H:Nat} {G:Nat->Nat->zk} {x y:Nat} {r:Int} {n:Pn} (hg:G x y=⟨r,0,n⟩) (hr:wd r=1):zR W H G x y r n=G:=by
 unfold zR;rw[if_pos hr];unfold setG;split
 ·simp only[Int.toNat_natCast,hg];funext a b;unfold upd;by_cases e:a=x/\b=y
  ·obtain⟨rfl,rfl⟩:=e;simp[hg]
  ·simp[e]
 ·rfl
theorem zk1 {W H:Nat} {G:Nat->Nat->zk} {x y:Nat} {r:Int} {n:Pn} (hg:G x y=⟨r,1,n⟩) (hg':G (x+1) y=⟨r,2,n⟩) (hx:x+1<W) (hy:y<H) (hr:wd r=2):zR W H G x y r n=G:=by
 unfold zR;have i1:inG W H x y=true:=zu.2 (by omega);have i2:inG W H ((x:Int)+1) y=true:=zu.2 (by omega);rw[if_neg (by omega),if_pos ⟨i1,i2⟩];unfold setG;rw[if_pos i2,if_pos i1];have t:((x:Int)+1).toNat=x+1:=by omega
 simp only[Int.toNat_natCast,t,hg];funext a b;by_cases e:a=x/\b=y
 ·obtain⟨rfl,rfl⟩:=e;simp[upd,hg]
 ·by_cases e':a=x+1/\b=y
  ·obtain⟨rfl,rfl⟩:=e';simp[upd,hg']
  ·simp[upd,e,e',blk]
structure Sp where
 x:Int
 y:Int
 pend:Bool
 pen:Pn
structure Wy where
 b:List UInt8
 k:Nat
 e:Sp
structure Gl where
 x:Int
 y:Int
 pen:Pn
 letter:Bool
def Sp.eqB (a b:Sp):Bool:=decide (a.x=b.x)&&decide (a.y=b.y)&&(a.pend==b.pend)&&a.pen.eqB b.pen
theorem Sp.eqB_iff {a b:Sp}:a.eqB b=true↔a=b:=by
 obtain⟨x,y,p,n⟩:=a;obtain⟨x',y',p',n'⟩:=b;simp[Sp.eqB,and_assoc,Pn.eqB_iff]
def Sp.move (s:Sp) (x y:Int):Sp:=⟨x,y,false,s.pen⟩
def Sp.ink (s:Sp) (n:Pn):Sp:=⟨s.x,s.y,s.pend,n⟩
def Sp.lx (s:Sp):Int:=if s.pend=true then 0 else s.x
def Sp.ly (s:Sp):Int:=if s.pend=true then s.y+1 else s.y
def Gl.isAt (g:Gl) (s:Sp):Bool:=if s.pend=true/\g.letter=false then false else decide (s.lx=g.x)&&decide (s.ly=g.y)&&s.pen.eqB g.pen
def Rs.on (s:Rs) (p:Sp):Rs:={s with x:=p.x,y:=p.y,pend:=p.pend,pen:=p.pen}
def Rs.sp (s:Rs):Sp:=⟨s.x,s.y,s.pend,s.pen⟩
structure Rs.Fl (s:Rs):Prop where
 ok:s.Ok
 B:s.B=⟨#[]⟩
 top:s.top=0
 bot:s.bot=(s.H:Int)-1
 pen:s.pen.Ok
structure Sp.In (p:Sp) (s:Rs):Prop where
 x0:0<=p.x
 x1:p.x<s.W
 y0:0<=p.y
 y1:p.y<s.H
 pd:p.pend=true->p.x=(s.W:Int)-1
theorem zvK {s:Rs} (h:s.Ok):s.sp.In s:=⟨h.x0,h.x1,h.y0,h.y1,h.pd⟩
theorem Rs.Fl.on {s:Rs} (h:s.Fl) {p:Sp} (hp:p.In s) (hn:p.pen.Ok):(s.on p).Fl:=
 ⟨⟨h.ok.w1,h.ok.w2,h.ok.h1,h.ok.h2,hp.x0,hp.x1,hp.y0,hp.y1,h.ok.t0,h.ok.tb,h.ok.b1,hp.pd,h.ok.wf⟩,h.B,h.top,h.bot,hn⟩
def zcH (s:Rs) (f:Sp) (x y k:Int):Sp:=if inG s.W s.H (x+k) y=true then⟨x+k,y,false,f.pen⟩ else⟨x+k-1,y,true,f.pen⟩
def zaZ (s:Rs) (f:Sp):List Wy:=
 if inG s.W s.H f.lx f.ly=true then
  (if (s.G f.lx.toNat f.ly.toNat).p=2\/(s.G f.lx.toNat f.ly.toNat).n.eqB f.pen=false then[]
    else[⟨zdd (s.G f.lx.toNat f.ly.toNat).r,0,zcH s f f.lx f.ly (wd (s.G f.lx.toNat f.ly.toNat).r)⟩])
 else[]
def zhR (a b:Int):Int:=if b>a then b else a
def zbr (s:Rs) (f:Sp) (g:Gl):List Wy:=
 [⟨[13],0,f.move 0 f.y⟩,⟨[8],0,f.move (zhR (f.x-1) 0) f.y⟩,⟨[],0,f.ink g.pen⟩]
 ++ (if inG s.W s.H f.x (f.y+1)=true then[⟨[10],0,f.move f.x (f.y+1)⟩] else[])
 ++ (if f.y=g.y then[] else[⟨Zy (g.y-f.y) 66 65,0,f.move f.x g.y⟩])
 ++ (if f.x=g.x then[] else[⟨Zy (g.x-f.x) 67 68,0,f.move g.x f.y⟩])
 ++ zaZ s f
theorem zi0 (s:Rs) (f:Sp) (g:Gl):(zbr s f g).length<=7:=by
 have ha:(zaZ s f).length<=1:=by
  unfold zaZ;split
  ·split<;>simp
  ·simp
 simp only[zbr,List.length_append,List.length_cons,List.length_nil];have h1:(if inG s.W s.H f.x (f.y+1)=true then[(⟨[10],0,f.move f.x (f.y+1)⟩:Wy)] else[]).length<=1:=by split<;>simp
 have h2:(if f.y=g.y then[] else[(⟨Zy (g.y-f.y) 66 65,0,f.move f.x g.y⟩:Wy)]).length<=1:=by split<;>simp
 have h3:(if f.x=g.x then[] else[(⟨Zy (g.x-f.x) 67 68,0,f.move g.x f.y⟩:Wy)]).length<=1:=by split<;>simp
 omega
structure zqv (s:Rs) (f:Sp) (g:Gl) (st:Wy):Prop where
 inn:st.e.In s
 how:(st.e.pen=f.pen/\zj (s.on f) st.b=s.on st.e)\/(st.b=[]/\st.e=f.ink g.pen)
section
variable {s:Rs} {f:Sp} {g:Gl}
theorem zoC (h:s.Fl) (hin:inG s.W s.H f.lx f.ly=true) (hp:(s.G f.lx.toNat f.ly.toNat).p≠2) (hq:(s.G f.lx.toNat f.ly.toNat).n=f.pen):
 zba (s.on f) (s.G f.lx.toNat f.ly.toNat).r=s.on (zcH s f f.lx f.ly (wd (s.G f.lx.toNat f.ly.toNat).r))/\(zcH s f f.lx f.ly (wd (s.G f.lx.toNat f.ly.toNat).r)).In s/\wd (s.G f.lx.toNat f.ly.toNat).r≠0:=by
 have ok:=h.ok;obtain⟨a0,a1,b0,b1⟩:=zu.1 hin;obtain⟨x,hx⟩:=Int.eq_ofNat_of_zero_le a0;obtain⟨y,hy⟩:=Int.eq_ofNat_of_zero_le b0;rw[hx] at a1;rw[hy] at b1;rw[hx,hy] at hp hq ⊢;simp only[Int.toNat_natCast] at hp hq ⊢;have hx':x<s.W:=by omega
 have hy':y<s.H:=by omega
 have w1:=ok.w1;have hb:∀k,(k=1\/(k=2/\x+1<s.W))->zaa (s.on f) k=s.on ⟨x,y,false,f.pen⟩:=by
  intro k hk;unfold zaa zb8;cases hpd:f.pend with
  |true=>
   have e1:f.lx=0:=by simp[Sp.lx,hpd]
   have e2:f.ly=f.y+1:=by simp[Sp.ly,hpd]
   rw[if_pos (by show(f.pend||_)=true;rw[hpd];rfl)];unfold zt;rw[if_neg (by show¬f.y=s.bot;rw[h.bot];omega)];show ZQ _ (0:Int) (f.y+1)=_;rw[zco (by omega) (by show(0:Int)<s.W;omega) (by omega) (by show f.y+1<(s.H:Int);omega)];have:f.y+1=y:=by omega
   have:(0:Int)=x:=by omega
   simp only[Rs.on];congr 1
  |false=>
   have e1:f.lx=f.x:=by simp[Sp.lx,hpd]
   have e2:f.ly=f.y:=by simp[Sp.ly,hpd]
   rw[if_neg]
   ·show s.on f=s.on ⟨x,y,false,f.pen⟩;rw[←hpd];simp only[Rs.on];congr 1<;>omega
   ·show¬(f.pend||(decide (k=2)&&decide (f.x=(s.W:Int)-1)))=true;rw[hpd];simp;omega
 have hst:∀k:Int,(k=1\/(k=2/\x+1<s.W))->zcr (s.on ⟨x,y,false,f.pen⟩) k=s.on (zcH s f x y k)/\(zcH s f x y k).In s:=by
  intro k hk;unfold zcr zcH;by_cases hc:(s.W:Int)<=x+k
  ·have hni:¬inG s.W s.H ((x:Int)+k) y=true:=λq=>by have:=zu.1 q;omega
   rw[if_pos (show((s.on ⟨x,y,false,f.pen⟩).W:Int)<=(s.on ⟨x,y,false,f.pen⟩).x+k from hc),if_neg hni];refine⟨?_,⟨by show(0:Int)<=x+k-1;omega,by show(x:Int)+k-1<s.W;omega,by show(0:Int)<=y;omega,by show(y:Int)<s.H;omega,λ_=>by show(x:Int)+k-1=(s.W:Int)-1;omega⟩⟩;simp only[Rs.on];congr 1;omega
  ·have hi:inG s.W s.H ((x:Int)+k) y=true:=zu.2 (by omega);rw[if_neg (show¬((s.on ⟨x,y,false,f.pen⟩).W:Int)<=(s.on ⟨x,y,false,f.pen⟩).x+k from hc),if_pos hi];exact⟨rfl,⟨by show(0:Int)<=x+k;omega,by show(x:Int)+k<s.W;omega,by show(0:Int)<=y;omega,by show(y:Int)<s.H;omega,λq=>by cases q⟩⟩
 rcases ok.wf.part x y hx' hy' with⟨p0,w0⟩|⟨p0,w0⟩|⟨p0,w0⟩
 ·obtain⟨e1,e2⟩:=hst 1 (.inl rfl);rw[w0];refine⟨?_,e2,by decide⟩;unfold zba;rw[if_neg (by rw[w0];decide)];have ew:ze1 (s.on f).W (s.G x y).r=1:=by unfold ze1;rw[if_neg (by rw[w0];omega),w0]
  have er:zeq (s.on f).W (s.G x y).r=(s.G x y).r:=by unfold zeq;rw[if_neg (by rw[w0];omega)]
  rw[ew,er,hb 1 (.inl rfl)];have eg:za8 (s.on ⟨x,y,false,f.pen⟩) (s.G x y).r=s.on ⟨x,y,false,f.pen⟩:=by
   unfold za8;have:zR s.W s.H s.G x y (s.G x y).r f.pen=s.G:=zk0 (by rw[←hq,←p0]) w0;simp only[Rs.on];rw[this]
  rw[eg,e1]
 ·obtain⟨hh,ht⟩:=ok.wf.head x y hx' hy' p0;obtain⟨e1,e2⟩:=hst 2 (.inr ⟨rfl,hh⟩);rw[w0];refine⟨?_,e2,by decide⟩;unfold zba;rw[if_neg (by rw[w0];decide)];have ew:ze1 (s.on f).W (s.G x y).r=2:=by unfold ze1;rw[if_neg (by rintro⟨_,q⟩;have:s.W=1:=q;omega),w0]
  have er:zeq (s.on f).W (s.G x y).r=(s.G x y).r:=by unfold zeq;rw[if_neg (by rintro⟨_,q⟩;have:s.W=1:=q;omega)]
  rw[ew,er,hb 2 (.inr ⟨rfl,hh⟩)];have eg:za8 (s.on ⟨x,y,false,f.pen⟩) (s.G x y).r=s.on ⟨x,y,false,f.pen⟩:=by
   unfold za8;have:zR s.W s.H s.G x y (s.G x y).r f.pen=s.G:=zk1 (by rw[←hq,←p0]) (by rw[ht,hq]) hh hy' w0;simp only[Rs.on];rw[this]
  rw[eg,e1]
 ·exact absurd p0 hp
theorem zqw (h:s.Fl) (hf:f.In s) (hn:f.pen.Ok) (gx0:0<=g.x) (gx1:g.x<s.W) (gy0:0<=g.y) (gy1:g.y<s.H):∀st∈zbr s f g,zqv s f g st:=by
 have ok:=h.ok;have w2:=ok.w2;have h2:=ok.h2;have w1:=ok.w1;have fl:=h.on hf hn;have fx0:=hf.x0;have fx1:=hf.x1;have fy0:=hf.y0;have fy1:=hf.y1;intro st hst;simp only[zbr,List.mem_append,List.mem_cons,List.not_mem_nil,or_false] at hst;rcases hst with((((rfl|rfl|rfl)|hst)|hst)|hst)|hst
 ·refine⟨⟨by show(0:Int)<=0;omega,by show(0:Int)<s.W;omega,fy0,fy1,λq=>by cases q⟩,.inl ⟨rfl,?_⟩⟩;rw[zsz fl.B,zco (s:=s.on f) (x:=0) (y:=(s.on f).y) (by omega) (by show(0:Int)<s.W;omega) fy0 fy1];rfl
 ·have hg:0<=zhR (f.x-1) 0/\zhR (f.x-1) 0<s.W/\zhR (f.x-1) 0=zap (f.x-1) s.W:=by
   unfold zhR zap;by_cases hc:f.x-1<0
   ·rw[if_pos hc,if_pos (by omega)];omega
   ·rw[if_neg hc,if_neg (by omega),if_neg (by omega)];omega
  refine⟨⟨hg.1,hg.2.1,fy0,fy1,λq=>by cases q⟩,.inl ⟨rfl,?_⟩⟩;rw[zsB fl.B];unfold ZQ;show({s.on f with x:=zap (f.x-1) s.W,y:=zap f.y s.H,pend:=false}:Rs)=s.on (f.move (zhR (f.x-1) 0) f.y);rw[hg.2.2,zf9 fy0 fy1];rfl
 ·exact⟨⟨fx0,fx1,fy0,fy1,hf.pd⟩,.inr ⟨rfl,rfl⟩⟩
 ·split at hst
  ·rename_i hin;obtain⟨_,_,_,b1⟩:=zu.1 hin;rw[List.mem_singleton] at hst;subst hst;refine⟨⟨fx0,fx1,by show(0:Int)<=f.y+1;omega,b1,λq=>by cases q⟩,.inl ⟨rfl,?_⟩⟩;rw[zsA fl.B];unfold zt;rw[if_neg (by show¬f.y=s.bot;rw[h.bot];omega)];show ZQ (s.on f) f.x (f.y+1)=_;rw[zco (s:=s.on f) fx0 fx1 (by omega) b1];rfl
  ·cases hst
 ·split at hst
  ·cases hst
  ·rename_i hne;rw[List.mem_singleton] at hst;subst hst;refine⟨⟨fx0,fx1,gy0,gy1,λq=>by cases q⟩,.inl ⟨rfl,?_⟩⟩;have:=zow (s:=s.on f) fl.B (y:=g.y) fx0 fx1 fy0 fy1 gy0 gy1 h2 hne;exact this
 ·split at hst
  ·cases hst
  ·rename_i hne;rw[List.mem_singleton] at hst;subst hst;refine⟨⟨gx0,gx1,fy0,fy1,λq=>by cases q⟩,.inl ⟨rfl,?_⟩⟩;have:=zmt (s:=s.on f) fl.B (x:=g.x) fx0 fx1 fy0 fy1 gx0 gx1 w2 hne;exact this
 ·unfold zaZ at hst;split at hst
  ·rename_i hin;split at hst
   ·cases hst
   ·rename_i hc;rw[List.mem_singleton] at hst;subst hst;have hc1:(s.G f.lx.toNat f.ly.toNat).p≠2:=λq=>hc (.inl q);have hc2:(s.G f.lx.toNat f.ly.toNat).n=f.pen:=by
     cases q:(s.G f.lx.toNat f.ly.toNat).n.eqB f.pen with
     |true=>exact Pn.eqB_iff.1 q
     |false=>exact absurd (.inr q) hc
    obtain⟨e1,e2,e3⟩:=zoC h hin hc1 hc2;refine⟨e2,.inl ⟨?_,?_⟩⟩
    ·show(zcH s f _ _ _).pen=_;unfold zcH;split<;>rfl
    ·show zj _ (zdd _)=_;rw[zgI fl.B e3,e1]
  ·cases hst
end
end
end Go.Proofs.YtjlfibhbfdckpaaGreatDoor
