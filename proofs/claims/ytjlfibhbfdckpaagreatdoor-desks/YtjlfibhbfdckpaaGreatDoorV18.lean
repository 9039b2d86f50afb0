import Derived.Test.YtjlfibhbfdckpaaGreatDoorV16
namespace Go.Proofs.YtjlfibhbfdckpaaGreatDoor
set_option maxHeartbeats 64000000
set_option maxRecDepth 100000
section
open Go.RowKit
inductive Pl where | top (k : Nat) | win (n : Int) (k : Nat)
structure Mm where
 t:Nat->Nat
 b:Int->Nat
 c:Int->Nat
 g:Int->Nat
 s:Int->Value
def Mm.blk (M:Mm):Pl->Option Nat
 |.top k=>some (M.t k)
 |.win n 0=>some (M.b n)
 |.win n 1=>some (M.c n)
 |.win n 2=>some (M.g n)
 |.win n _=>(M.s n).ownBlock
def Pl.ok (L:List Wn):Pl->Prop
 |.top k=>k<5
 |.win n k=>k<4/\∃v∈L,v.n=n
def Mm.own (M:Mm) (L:List Wn) (i:Nat):Prop:=∃p:Pl,p.ok L/\M.blk p=some i
def Mm.inj (M:Mm) (L:List Wn):Prop:=∀(p q:Pl) (i:Nat),p.ok L->q.ok L->M.blk p=some i->M.blk q=some i->p=q
def Mm.pp (M:Mm) (n:Int):Option Addr:=if n = -1 then none else some ⟨M.b n,0,none⟩
abbrev Mm.ptr (M:Mm) (n:Int):Value:=.pointer (some ⟨M.b n,0,none⟩)
def Mm.ptrs (M:Mm) (l:List Wn):List Value:=l.map (λu=>M.ptr u.n)
abbrev Z8 (v:Wn) (pp:Option Addr) (cn:Nat) (sv:Value):Array Value:=#[.int .i64 v.n,.pointer pp,.int .i64 v.x,.int .i64 v.y,.bool v.sh,.pointer (some ⟨cn,0,none⟩),sv]
structure Z9 (w:World) (v:Wn) (bn cn gn:Nat) (pp:Option Addr) (sv:Value) (ks:List Value):Prop where
 blk:w.heap[bn]?=some (.cells (Z8 v pp cn sv) 131)
 gr:Zi w cn gn v.W v.H (v.H*v.W) v.G
 wf:Wf v.W v.H v.G
 row:w.ownsRow 2 111 1 sv ks.length ks
theorem zx {w w':World} {base:Nat} {e:TypeId} {size:Nat} {v:Value} {n:Nat} {xs:List Value} (h:w.ownsRow base e size v n xs) (hs:∀i,v.ownBlock=some i->w'.heap[i]?=w.heap[i]?):w'.ownsRow base e size v n xs:=by
 refine⟨h.1,?_⟩;rcases h.2 with h0|⟨g,cap,cur,rfl,h1,h2,h3⟩
 ·exact .inl h0
 ·exact .inr ⟨g,cap,cur,rfl,h1,by rw[hs g rfl];exact h2,h3⟩
theorem Zw {w:World} {base:Nat} {e:TypeId} {size:Nat} {v:Value} {n:Nat} {xs:List Value} (h:w.ownsRow base e size v n xs) {i:Nat} (hs:v.ownBlock=some i):i<w.heap.size/\base<=i:=by
 rcases h.2 with⟨rfl,_⟩|⟨g,cap,cur,rfl,h1,h2,h3⟩
 ·simp[Value.ownBlock] at hs
 ·obtain rfl:g=i:=by simpa[Value.ownBlock] using hs
  exact⟨(Array.getElem?_eq_some_iff.1 h2).1,h1⟩
section
variable {w w':World} {v:Wn} {bn cn gn:Nat} {pp:Option Addr} {sv:Value} {ks:List Value}
theorem Z9.lt (h:Z9 w v bn cn gn pp sv ks):bn<w.heap.size:=(Array.getElem?_eq_some_iff.1 h.blk).1
theorem Z9.same (h:Z9 w v bn cn gn pp sv ks) (h1:w'.heap[bn]?=w.heap[bn]?) (h2:w'.heap[cn]?=w.heap[cn]?) (h3:w'.heap[gn]?=w.heap[gn]?) (h4:∀i,sv.ownBlock=some i->w'.heap[i]?=w.heap[i]?):Z9 w' v bn cn gn pp sv ks:=
 ⟨by rw[h1];exact h.blk,h.gr.same h2 h3,h.wf,zx h.row h4⟩
theorem Z9.f0 (h:Z9 w v bn cn gn pp sv ks):w.cell? ⟨bn,0,none⟩=some (.int .i64 v.n):=za h.blk 0
theorem Z9.f1 (h:Z9 w v bn cn gn pp sv ks):w.cell? ⟨bn,1,none⟩=some (.pointer pp):=za h.blk 1
theorem Z9.f2 (h:Z9 w v bn cn gn pp sv ks):w.cell? ⟨bn,2,none⟩=some (.int .i64 v.x):=za h.blk 2
theorem Z9.f3 (h:Z9 w v bn cn gn pp sv ks):w.cell? ⟨bn,3,none⟩=some (.int .i64 v.y):=za h.blk 3
theorem Z9.f4 (h:Z9 w v bn cn gn pp sv ks):w.cell? ⟨bn,4,none⟩=some (.bool v.sh):=za h.blk 4
theorem Z9.f5 (h:Z9 w v bn cn gn pp sv ks):w.cell? ⟨bn,5,none⟩=some (.pointer (some ⟨cn,0,none⟩)):=za h.blk 5
theorem Z9.f6 (h:Z9 w v bn cn gn pp sv ks):w.cell? ⟨bn,6,none⟩=some sv:=za h.blk 6
theorem Z9.free (h:Z9 w v bn cn gn pp sv ks):∀o,w.frozen? ⟨bn,o,none⟩=false:=ze h.blk
end
structure ZK (L:List Wn) (last:Int):Prop where
 tree:∃rk K,ZR L rk K
 le:∀v∈L,v.n<=last
 len:L.length<=16
 pl:∀v∈L,-1000<=v.x/\v.x<=1000/\-1000<=v.y/\v.y<=1000
structure zI (w:World) (M:Mm) (L:List Wn) (last:Int) (N:Nat) (s:Rs) (t:Pt):Prop where
 b0:w.heap[M.t 0]?=some (.cells #[.pointer (some ⟨M.t 1,0,none⟩)] 75)
 b1:w.heap[M.t 1]?=some (.cells #[M.ptr 0,.int .i64 last,.pointer (some ⟨M.t 2,0,none⟩)] 133)
 scr:zh w (M.t 2) (M.t 3) (M.t 4) N s t
 win:∀v∈L,Z9 w v (M.b v.n) (M.c v.n) (M.g v.n) (M.pp v.par) (M.s v.n) (M.ptrs (zy L v.n))
 inj:M.inj L
 two:∀i,M.own L i->2<=i
section
variable {w w':World} {M:Mm} {L:List Wn} {last:Int} {N:Nat} {s:Rs} {t:Pt}
theorem zI.lt (h:zI w M L last N s t) {i:Nat} (hi:M.own L i):i<w.heap.size:=by
 obtain⟨p,hp,hb⟩:=hi;cases p with
 |top k=>
  obtain rfl:M.t k=i:=by simpa[Mm.blk] using hb
  have hk:k<5:=hp;match k,hk with
  |0,_=>exact(Array.getElem?_eq_some_iff.1 h.b0).1
  |1,_=>exact(Array.getElem?_eq_some_iff.1 h.b1).1
  |2,_=>exact h.scr.lt
  |3,_=>exact h.scr.gr.lt
  |4,_=>exact h.scr.gr.glt
 |win n k=>
  obtain⟨hk,v,hv,rfl⟩:=hp;have hw:=h.win v hv;match k,hk with
  |0,_=>
    obtain rfl:M.b v.n=i:=by simpa[Mm.blk] using hb
    exact hw.lt
  |1,_=>
    obtain rfl:M.c v.n=i:=by simpa[Mm.blk] using hb
    exact hw.gr.lt
  |2,_=>
    obtain rfl:M.g v.n=i:=by simpa[Mm.blk] using hb
    exact hw.gr.glt
  |3,_=>exact(Zw hw.row hb).1
theorem Zg (M:Mm) (L:List Wn) (k:Nat) (hk:k<5):M.own L (M.t k):=⟨.top k,hk,rfl⟩
theorem zgA (M:Mm) {L:List Wn} {v:Wn} (hv:v∈L):M.own L (M.b v.n):=⟨.win v.n 0,⟨by omega,v,hv,rfl⟩,rfl⟩
theorem zpI (M:Mm) {L:List Wn} {v:Wn} (hv:v∈L):M.own L (M.c v.n):=⟨.win v.n 1,⟨by omega,v,hv,rfl⟩,rfl⟩
theorem znd (M:Mm) {L:List Wn} {v:Wn} (hv:v∈L):M.own L (M.g v.n):=⟨.win v.n 2,⟨by omega,v,hv,rfl⟩,rfl⟩
theorem zht (M:Mm) {L:List Wn} {v:Wn} (hv:v∈L) {i:Nat} (hi:(M.s v.n).ownBlock=some i):M.own L i:=⟨.win v.n 3,⟨by omega,v,hv,rfl⟩,hi⟩
theorem zI.same (h:zI w M L last N s t) (hs:∀i,M.own L i->w'.heap[i]?=w.heap[i]?):zI w' M L last N s t:=
 ⟨by rw[hs _ (Zg M L 0 (by omega))];exact h.b0,by rw[hs _ (Zg M L 1 (by omega))];exact h.b1,
  h.scr.same (hs _ (Zg M L 2 (by omega))) (hs _ (Zg M L 3 (by omega))) (hs _ (Zg M L 4 (by omega))),
  λv hv=>(h.win v hv).same (hs _ (zgA M hv)) (hs _ (zpI M hv)) (hs _ (znd M hv)) (λi hi=>hs _ (zht M hv hi)),h.inj,h.two⟩
theorem zI.keep {F:Nat->Prop} (h:zI w M L last N s t) (k:zd F w w') (hF:∀i,M.own L i->¬F i):zI w' M L last N s t:=
 h.same (λi hi=>k.block i (h.lt hi) (hF i hi))
theorem zI.below (h:zI w M L last N s t) (hb:Below w.heap.size w w'):zI w' M L last N s t:=
 h.same (λi hi=>hb.block i (h.lt hi))
theorem zI.c0 (h:zI w M L last N s t):w.cell? ⟨M.t 0,0,none⟩=some (.pointer (some ⟨M.t 1,0,none⟩)):=za h.b0 0
theorem zI.d0 (h:zI w M L last N s t):w.cell? ⟨M.t 1,0,none⟩=some (M.ptr 0):=za h.b1 0
theorem zI.d1 (h:zI w M L last N s t):w.cell? ⟨M.t 1,1,none⟩=some (.int .i64 last):=za h.b1 1
theorem zI.d2 (h:zI w M L last N s t):w.cell? ⟨M.t 1,2,none⟩=some (.pointer (some ⟨M.t 2,0,none⟩)):=za h.b1 2
theorem zI.ne (h:zI w M L last N s t) {p q:Pl} {i j:Nat} (hp:p.ok L) (hq:q.ok L) (hi:M.blk p=some i) (hj:M.blk q=some j) (hpq:p≠q):i≠j:=λe=>hpq (h.inj p q i hp hq hi (e ▸ hj))
end
end
section
open Go.RowKit
attribute [local go_sem ↓] Go.wp_at_zero Go.wp_at_succ
theorem zdX {w:World} {base:Nat} {e:TypeId} {v:Value} {ks:List Value} (h:w.ownsRow base e 1 v ks.length ks):∃p cap,v=.slice p ks.length cap/\ks.length<=cap/\cap<=9223372036854775807/\∀j x,ks[j]?=some x->∃ib,p=some ⟨ib,0,none⟩/\w.cell? ⟨ib,j,none⟩=some x:=by
 rcases h.2 with⟨rfl,h0⟩|⟨g,cap,cur,rfl,h1,h2,h3,h4,h5,h6⟩
 ·refine⟨none,0,by rw[h0],by omega,by omega,λj x hx=>?_⟩;rw[List.length_eq_zero_iff.1 h0] at hx;simp at hx
 ·refine⟨some ⟨g,0,none⟩,cap,rfl,h3,h4,λj x hx=>⟨g,rfl,?_⟩⟩;rw[za h2];have hj:=(List.getElem?_eq_some_iff.1 hx).1;rw[Nat.mul_one] at h6;rw[←Array.getElem?_toList,←List.getElem?_take_of_lt hj,h6];exact hx
theorem Mm.ptrs_len (M:Mm) (l:List Wn):(M.ptrs l).length=l.length:=by simp[Mm.ptrs]
theorem Mm.ptrs_at {M:Mm} {l:List Wn} {j:Nat} {u:Wn} (h:l[j]?=some u):(M.ptrs l)[j]?=some (M.ptr u.n):=by simp[Mm.ptrs,h]
theorem ziI (M:Mm) (v:Wn) (ks:List Wn) (bn cn gn:Nat) (pp:Option Addr) (sv:Value) (num:Int) (r:Option Addr) (g:Wn->Bool) (w:World) (h:Z9 w v bn cn gn pp sv (M.ptrs ks)) (hr:v.n=num->r=some ⟨bn,0,none⟩) (hr0:r≠none) (res:Option Addr) (hres:res=if (decide (v.n=num)||ks.any g)=true then r else none)
 (hcall:∀u∈ks,Calls Tryz.prog 167 #[M.ptr u.n,.int .i64 num] w λe w'=>e=.returned (.pointer (if g u=true then r else none))/\w'=w):
 Calls Tryz.prog 167 #[.pointer (some ⟨bn,0,none⟩),.int .i64 num] w λe w'=>e=.returned (.pointer res)/\w'=w:=by
 have Hres:=zH hres;clear hres;have c0:=h.f0;have c6:=h.f6;obtain⟨p,cap,rfl,hcap,hmax,hcell⟩:=zdX h.row;have Hc:=zH hcell;have Hcall:=zH hcall;rw[M.ptrs_len] at *;clear h hcell hcall;by_cases h1:v.n=num
 ·obtain rfl:res=some ⟨bn,0,none⟩:=by rw[Hres.out,if_pos (by simp[h1]),hr h1]
  go_in;go_wp2_with fail;go_ret;exact⟨rfl,rfl⟩
 ·have Hr:=zH hr0;have hb:(v.n==num)=false:=by simp[h1]
  clear hr hr0;go_in;go_wp2_with fail;go_loopw[20] (λi wr=>∃k:Nat,k<=ks.length/\i=.int .i64 k/\(∀u∈ks.take k,g u=false)/\wr=w) (λi _=>ks.length-(intOf i).toNat)
  case atStart=>exact⟨0,by omega,rfl,by simp,rfl⟩
  case round=>
   obtain⟨k,hk,rfl,hg,rfl⟩:=hrel;by_cases hlt:k<ks.length
   ·obtain⟨u,hu⟩:∃u,ks[k]?=some u:=⟨_,List.getElem?_eq_getElem hlt⟩;obtain⟨ib,rfl,hc⟩:=Hc.out k _ (Mm.ptrs_at hu);have hum:=List.mem_of_getElem? hu;have hgs:ks.take (k+1)=ks.take k ++ [u]:=by rw[List.take_add_one,hu];rfl
    cases hgu:g u with
    |true=>
     obtain⟨a,ha⟩:∃a,r=some a:=Option.ne_none_iff_exists'.1 Hr.out;subst ha;obtain rfl:res=some a:=by rw[Hres.out,if_pos];rw[List.any_eq_true.2 ⟨u,hum,hgu⟩,Bool.or_true]
     go_wp2_with (first|(go_at_call 167;refine(Hcall.out u hum).mono ?_;rw[hgu];rintro e w' ⟨rfl,rfl⟩));go_ret;exact⟨rfl,rfl⟩
    |false=>
     go_wp2_with (first|(go_at_call 167;refine(Hcall.out u hum).mono ?_;rw[hgu];rintro e w' ⟨rfl,rfl⟩));go_roundw
     case rel=>
      refine⟨k+1,by omega,by simp,λx hx=>?_,trivial⟩;rw[hgs] at hx;rcases List.mem_append.1 hx with hx|hx
      ·exact hg x hx
      ·obtain rfl:x=u:=by simpa using hx
       exact hgu
     case measure=>simp[intOf];omega
   ·obtain rfl:k=ks.length:=by omega
    rw[List.take_length] at hg;have hn:ks.any g=false:=by
     rw[Bool.eq_false_iff];intro hx;obtain⟨u,hu,hgu⟩:=List.any_eq_true.1 hx;rw[hg u hu] at hgu;cases hgu
    obtain rfl:res=none:=by rw[Hres.out,if_neg];rw[hn,decide_eq_false h1];simp
    go_wp2_with fail;go_ret;exact⟨rfl,rfl⟩
theorem zvv {M:Mm} {L:List Wn} {last:Int} {N:Nat} {s:Rs} {t:Pt} {rk:Int->Nat} {K:Nat} (T:ZR L rk K) (num:Int) (w:World) (h:zI w M L last N s t):∀(f:Nat) (v:Wn),v∈L->K<=rk v.n+f →
 Calls Tryz.prog 167 #[M.ptr v.n,.int .i64 num] w λe w'=>e=.returned (.pointer (if zjz L f v.n num=true then some ⟨M.b num,0,none⟩ else none))/\w'=w:=by
 intro f;induction f with
 |zero=>
  intro v hv hk;have hn:=T.noKids (T.pos hv) (by omega);have:=ziI M v _ _ _ _ _ _ num (some ⟨M.b num,0,none⟩) (λ_=>false) w (h.win v hv) (λe=>by rw[e]) (by simp) _ rfl (λu hu=>by rw[hn] at hu;simp at hu);simpa[zjz,hn] using this
 |succ f ih=>
  intro v hv hk;refine ziI M v _ _ _ _ _ _ num (some ⟨M.b num,0,none⟩) (λu=>zjz L f u.n num) w (h.win v hv) (λe=>by rw[e]) (by simp) _ rfl (λu hu=>?_);obtain⟨hL,hp⟩:=Ze.1 hu;have:=(T.up u hL (by have:=T.pos hv;omega)).2;rw[hp] at this;exact ih u hL (by omega)
theorem zhu (M:Mm) (v:Wn) (ks:List Wn) (bn cn gn:Nat) (pp:Option Addr) (sv:Value) (g:Wn->Nat) (w:World) (h:Z9 w v bn cn gn pp sv (M.ptrs ks)) (hb:1+(ks.map g).sum<=1000)
 (hcall:∀u∈ks,Calls Tryz.prog 149 #[M.ptr u.n] w λe w'=>e=.returned (.int .i64 (g u))/\w'=w):
 Calls Tryz.prog 149 #[.pointer (some ⟨bn,0,none⟩)] w λe w'=>e=.returned (.int .i64 ((1+(ks.map g).sum:Nat):Int))/\w'=w:=by
 have c6:=h.f6;obtain⟨p,cap,rfl,hcap,hmax,hcell⟩:=zdX h.row;have Hc:=zH hcell;have Hcall:=zH hcall;rw[M.ptrs_len] at *;have Hb:=zH hb;clear h hcell hcall hb;go_in;go_wp2_with fail;go_loopw[3,11] (λa i wr=>∃k:Nat,k<=ks.length/\i=.int .i64 k/\a=.int .i64 ((1+((ks.take k).map g).sum:Nat):Int)/\wr=w) (λ_ i _=>ks.length-(intOf i).toNat)
 case atStart=>exact⟨0,by omega,rfl,by simp,rfl⟩
 case round=>
  obtain⟨k,hk,rfl,rfl,rfl⟩:=hrel;by_cases hlt:k<ks.length
  ·obtain⟨u,hu⟩:∃u,ks[k]?=some u:=⟨_,List.getElem?_eq_getElem hlt⟩;obtain⟨ib,rfl,hc⟩:=Hc.out k _ (Mm.ptrs_at hu);have hum:=List.mem_of_getElem? hu;have hgs:((ks.take (k+1)).map g).sum=((ks.take k).map g).sum+g u:=by rw[List.take_add_one,hu];simp
   have hle:((ks.take (k+1)).map g).sum<=(ks.map g).sum:=by
    conv=>rhs;rw[←List.take_append_drop (k+1) ks]
    rw[List.map_append,List.sum_append];omega
   have hb:=Hb.out;obtain⟨a,ha⟩:∃a,1+((ks.take k).map g).sum=a:=⟨_,rfl⟩;obtain⟨b,hb'⟩:∃b,g u=b:=⟨_,rfl⟩;have hw1:a+b<=1000:=by omega
   have hn:1+((ks.take (k+1)).map g).sum=a+b:=by omega
   have HN:=zH hn;rw[ha];have Hub:=zH hb';clear hn hle hgs ha hb' hb;go_wp2_with (first|(go_at_call 149;refine(Hcall.out u hum).mono ?_;rw[Hub.out];rintro e w' ⟨rfl,rfl⟩));go_roundw
   case rel=>exact⟨k+1,by omega,by simp,by rw[HN.out];simp,trivial⟩
   case measure=>simp[intOf];omega
  ·obtain rfl:k=ks.length:=by omega
   rw[List.take_length];go_wp2_with fail;go_ret;exact⟨rfl,rfl⟩
theorem zt1 {M:Mm} {L:List Wn} {last:Int} {N:Nat} {s:Rs} {t:Pt} {rk:Int->Nat} {K:Nat} (T:ZR L rk K) (w:World) (h:zI w M L last N s t) (hl:L.length<=16):∀(f:Nat) (v:Wn),v∈L->K<=rk v.n+f →
 Calls Tryz.prog 149 #[M.ptr v.n] w λe w'=>e=.returned (.int .i64 (zkp L f v.n:Int))/\w'=w:=by
 intro f;induction f with
 |zero=>
  intro v hv hk;have hn:=T.noKids (T.pos hv) (by omega);have:=zhu M v _ _ _ _ _ _ (λ_=>0) w (h.win v hv) (by rw[hn];simp) (λu hu=>by rw[hn] at hu;simp at hu);simpa[zkp,hn] using this
 |succ f ih=>
  intro v hv hk;have hc:=T.cntLe (f+1) v hv hk;refine zhu M v _ _ _ _ _ _ (λu=>zkp L f u.n) w (h.win v hv) (by simp only[zkp] at hc;omega) (λu hu=>?_);obtain⟨hL,hp⟩:=Ze.1 hu;have:=(T.up u hL (by have:=T.pos hv;omega)).2;rw[hp] at this;exact ih u hL (by omega)
end
section
open Go.RowKit
def Zo {α:Type} (f:Int->α) (n:Int) (a:α):Int->α:=λm=>if m=n then a else f m
theorem zD {α:Type} (f:Int->α) (n:Int) (a:α):Zo f n a n=a:=if_pos rfl
theorem zn {α:Type} (f:Int->α) {n m:Int} (a:α) (h:m≠n):Zo f n a m=f m:=if_neg h
theorem zew (L:List Wn) (v:Wn) (n:Int):zy (L ++ [v]) n=zy L n++(if v.par=n then[v] else[]):=by
 unfold zy;rw[List.filter_append];congr 1;by_cases h:v.par=n
 ·simp[h]
 ·simp[h]
theorem znT {L:List Wn} {last:Int} (ok:ZK L last) {v:Wn} (hv:v∈L) (hl:L.length<16) (x y:Int) (W H:Nat) (G:Nat->Nat->zk) (hx:-1000<=x/\x<=1000/\-1000<=y/\y<=1000) (sh:Bool):ZK (L ++ [⟨last+1,v.n,x,y,sh,W,H,G⟩]) (last+1):=by
 obtain⟨rk,K,T⟩:=ok.tree;have hvn:=T.pos hv;have hvl:=ok.le v hv;refine⟨⟨Zo rk (last+1) (rk v.n+1),max K (rk v.n+1),?_,?_,?_,?_⟩,?_,?_,?_⟩
 ·obtain⟨r,t,rfl,h0,h1,h2⟩:=T.head;refine⟨r,t ++ [⟨last+1,v.n,x,y,sh,W,H,G⟩],rfl,h0,h1,λu hu=>?_⟩;rcases List.mem_append.1 hu with hu|hu
  ·exact h2 u hu
  ·obtain rfl:u=⟨last+1,v.n,x,y,sh,W,H,G⟩:=by simpa using hu
   exact⟨by show 1<=last+1;omega,hvn⟩
 ·rw[List.map_append,List.nodup_append];refine⟨T.nd,by simp,?_⟩;intro a ha b hb e;obtain⟨u,hu,rfl⟩:=List.mem_map.1 ha;have:b=last+1:=by simpa using hb
  have:=ok.le u hu;omega
 ·intro u hu hp;rcases List.mem_append.1 hu with hu|hu
  ·obtain⟨⟨q,hq,hqn⟩,hr⟩:=T.up u hu hp;have h1:=ok.le u hu;have h2:=ok.le q hq;refine⟨⟨q,List.mem_append.2 (.inl hq),hqn⟩,?_⟩;rw[zn rk _ (by omega),zn rk _ (by omega)];exact hr
  ·obtain rfl:u=⟨last+1,v.n,x,y,sh,W,H,G⟩:=by simpa using hu
   refine⟨⟨v,List.mem_append.2 (.inl hv),rfl⟩,?_⟩;show Zo rk (last+1) (rk v.n+1) v.n<Zo rk (last+1) (rk v.n+1) (last+1);rw[zD,zn rk _ (by omega)];omega
 ·intro u hu;rcases List.mem_append.1 hu with hu|hu
  ·have h1:=ok.le u hu;rw[zn rk _ (by omega)];have:=T.le u hu;omega
  ·obtain rfl:u=⟨last+1,v.n,x,y,sh,W,H,G⟩:=by simpa using hu
   show Zo rk (last+1) (rk v.n+1) (last+1)<=_;rw[zD];omega
 ·intro u hu;rcases List.mem_append.1 hu with hu|hu
  ·have:=ok.le u hu;omega
  ·obtain rfl:u=⟨last+1,v.n,x,y,sh,W,H,G⟩:=by simpa using hu
   exact Int.le_refl _
 ·rw[List.length_append];simp;omega
 ·intro u hu;rcases List.mem_append.1 hu with hu|hu
  ·exact ok.pl u hu
  ·obtain rfl:u=⟨last+1,v.n,x,y,sh,W,H,G⟩:=by simpa using hu
   exact hx
theorem zjF {M M':Mm} {L L':List Wn} (h:M.inj L) (B:Nat) (hB:∀i,M.own L i->i<B) (fr:Pl->Prop)
 (hold:∀p:Pl,p.ok L'->¬fr p->p.ok L/\M'.blk p=M.blk p) (hfr:∀(p:Pl) (i:Nat),p.ok L'->fr p->M'.blk p=some i->B<=i)
 (hff:∀(p q:Pl) (i:Nat),p.ok L'->q.ok L'->fr p->fr q->M'.blk p=some i->M'.blk q=some i->p=q):M'.inj L':=by
 intro p q i hp hq e1 e2;by_cases fp:fr p
 ·by_cases fq:fr q
  ·exact hff p q i hp hq fp fq e1 e2
  ·obtain⟨oq,bq⟩:=hold q hq fq;have h1:=hfr p i hp fp e1;have h2:=hB i ⟨q,oq,by rw[←bq];exact e2⟩;omega
 ·obtain⟨op,bp⟩:=hold p hp fp;by_cases fq:fr q
  ·have h1:=hfr q i hq fq e2;have h2:=hB i ⟨p,op,by rw[←bp];exact e1⟩;omega
  ·obtain⟨oq,bq⟩:=hold q hq fq;exact h p q i op oq (by rw[←bp];exact e1) (by rw[←bq];exact e2)
theorem zjG {M M':Mm} {L L':List Wn} (B:Nat) (fr:Pl->Prop) (hold:∀p:Pl,p.ok L'->¬fr p->p.ok L/\M'.blk p=M.blk p) (hfr:∀(p:Pl) (i:Nat),p.ok L'->fr p->M'.blk p=some i->B<=i) {i:Nat} (hi:M'.own L' i):M.own L i\/B<=i:=by
 obtain⟨p,hp,e⟩:=hi;by_cases fp:fr p
 ·exact .inr (hfr p i hp fp e)
 ·obtain⟨op,bp⟩:=hold p hp fp;exact .inl ⟨p,op,by rw[←bp];exact e⟩
end
end Go.Proofs.YtjlfibhbfdckpaaGreatDoor
