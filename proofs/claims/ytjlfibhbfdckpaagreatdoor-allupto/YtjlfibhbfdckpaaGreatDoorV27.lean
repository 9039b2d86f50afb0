import Derived.Test.YtjlfibhbfdckpaaGreatDoorV07
import Derived.Test.YtjlfibhbfdckpaaGreatDoorV26
namespace Go.Proofs.YtjlfibhbfdckpaaGreatDoor
set_option maxHeartbeats 64000000
set_option maxRecDepth 100000
section
theorem zfF {α:Type} {p:α->Bool} (L:List α) (h:∀(k:Nat) (v:α),L[k]?=some v->p v=false):L.reverse.find? p=none:=by
 rw[List.find?_eq_none];intro a ha;rw[List.mem_reverse] at ha;obtain⟨k,hk⟩:=List.getElem?_of_mem ha;simp[h k a hk]
theorem zjK {α:Type} {p:α->Bool}:∀(L:List α) (j:Nat) (u:α),L[j]?=some u->p u=true->(∀(k:Nat) (v:α),j<k->L[k]?=some v->p v=false)->L.reverse.find? p=some u:=by
 intro L;induction L with
 |nil=>intro j u h;simp at h
 |cons a t ih=>
  intro j u h hp hk;rw[List.reverse_cons,List.find?_append];cases j with
  |zero=>
   obtain rfl:a=u:=by simpa using h
   rw[zfF t (λk v hv=>hk (k+1) v (by omega) (by simpa using hv))];simp[hp]
  |succ j=>
   rw[ih j u (by simpa using h) hp (λk v hkj hv=>hk (k+1) v (by omega) (by simpa using hv))];rfl
theorem zkC (L:List Wn) (n x y:Int):zcw L n x y=L.reverse.find? (λu=>decide (u.par=n)&&hit x y u):=by
 unfold zcw zy;rw[←List.filter_reverse,List.find?_filter];congr 1;funext a;simp
def zdc (v:Wn):List Wn->List Wn
 |[]=>[v]
 |r::t=>r::v::t
theorem zn7 (v u:Wn) {M:List Wn} (h:M≠[]):zdc v (M ++ [u])=zdc v M ++ [u]:=by
 cases M with
 |nil=>exact absurd rfl h
 |cons r t=>rfl
theorem ziR (L:List Wn) (v:Wn):zcK L v=zdc v (zG L v.n):=by
 unfold zcK zdc;split<;>simp_all
theorem zhy (v:Wn) (M:List Wn):(zdc v M).length=M.length+1:=by cases M<;>simp[zdc]
theorem zp6 {v u:Wn} {M:List Wn}:u∈zdc v M↔u=v\/u∈M:=by
 cases M with
 |nil=>simp[zdc]
 |cons r t=>simp[zdc];exact or_left_comm
def Zx (L:List Wn) (n:Int) (k:Nat):List Wn:=zG (L.take k) n
theorem zd0 {α:Type} {L:List α} {k:Nat} {u:α} (h:L[k]?=some u):L.take (k+1)=L.take k ++ [u]:=by
 rw[List.take_add_one,h];rfl
theorem zgE {L:List Wn} {n:Int} {k:Nat} {u:Wn} (h:L[k]?=some u) (hn:u.n=n):Zx L n (k+1)=Zx L n k:=by
 unfold Zx zG;rw[zd0 h,List.filter_append];simp[hn]
theorem zdk {L:List Wn} {n:Int} {k:Nat} {u:Wn} (h:L[k]?=some u) (hn:u.n≠n):Zx L n (k+1)=Zx L n k ++ [u]:=by
 unfold Zx zG;rw[zd0 h,List.filter_append];simp[hn]
theorem zhz (L:List Wn) (n:Int):Zx L n L.length=zG L n:=by unfold Zx;rw[List.take_length]
theorem zd1 (L:List Wn) (n:Int) (k:Nat):(Zx L n k).length<=k:=Nat.le_trans (List.length_filter_le _ _) (List.length_take_le _ _)
noncomputable def firstD (L:List Wn) (n:Int) (k:Nat):List Wn:=(L.take k).filter (λu=>!(@decide (Sub L n u.n) (Classical.propDecidable _)))
theorem zkD {L:List Wn} {n:Int} {k:Nat} {u:Wn} (h:L[k]?=some u) (hn:Sub L n u.n):firstD L n (k+1)=firstD L n k:=by
 unfold firstD;rw[zd0 h,List.filter_append];simp[hn]
theorem zkE {L:List Wn} {n:Int} {k:Nat} {u:Wn} (h:L[k]?=some u) (hn:¬Sub L n u.n):firstD L n (k+1)=firstD L n k ++ [u]:=by
 unfold firstD;rw[zd0 h,List.filter_append];simp[hn]
theorem zma (L:List Wn) (n:Int):firstD L n L.length=delL L n:=by unfold firstD delL;rw[List.take_length]
theorem zmb (L:List Wn) (n:Int) (k:Nat):(firstD L n k).length<=k:=Nat.le_trans (List.length_filter_le _ _) (List.length_take_le _ _)
end
section
open Go.RowKit
def zbC (c:Int->Nat) (v:Wn):List Value:=[.int .i64 v.n,.int .i64 v.par,.int .i64 v.x,.int .i64 v.y,.bool v.sh,.pointer (some ⟨c v.n,0,none⟩)]
def ZE (c:Int->Nat) (L:List Wn):List Value:=L.flatMap (zbC c)
theorem zfG (c:Int->Nat) (L M:List Wn):ZE c (L++M)=ZE c L++ZE c M:=by simp[ZE]
theorem ziT (c:Int->Nat) (v:Wn):ZE c [v]=zbC c v:=by simp[ZE]
theorem zjM (c:Int->Nat) (L:List Wn):(ZE c L).length=L.length*6:=by
 induction L with
 |nil=>rfl
 |cons v L ih=>simp[ZE,zbC] at ih ⊢;omega
theorem zp8 (c:Int->Nat):∀(L:List Wn) (i j:Nat) (v:Wn),L[i]?=some v->j<6->(ZE c L)[i*6+j]?=(zbC c v)[j]?:=by
 intro L;induction L with
 |nil=>intro i j v h;simp at h
 |cons a L ih=>
  intro i j v h hj;have e:ZE c (a::L)=zbC c a++ZE c L:=by simp[ZE]
  have hl:(zbC c a).length=6:=rfl;rw[e];cases i with
  |zero=>
   obtain rfl:a=v:=by simpa using h
   rw[List.getElem?_append_left (by omega)];simp
  |succ i=>
   rw[List.getElem?_append_right (by omega),hl,show(i+1)*6+j-6=i*6+j by omega];exact ih i j v (by simpa using h) hj
def zvF (w:World) (b o:Nat) (c:Nat) (v:Wn):Prop:=w.cell? ⟨b,o,none⟩=some (.int .i64 v.n)/\w.cell? ⟨b,o+1,none⟩=some (.int .i64 v.par)/\w.cell? ⟨b,o+2,none⟩=some (.int .i64 v.x)/\w.cell? ⟨b,o+3,none⟩=some (.int .i64 v.y)/\w.cell? ⟨b,o+4,none⟩=some (.bool v.sh)/\w.cell? ⟨b,o+5,none⟩=some (.pointer (some ⟨c,0,none⟩))
theorem zsm {w:World} {base g n cap:Nat} {c:Int->Nat} {L:List Wn} {t:TypeId} (h:w.ownsRow base t 6 (.slice (some ⟨g,0,none⟩) n cap) n (ZE c L)) (i:Nat) (v:Wn) (hi:L[i]?=some v):zvF w g (i*6) (c v.n) v:=by
 obtain⟨hl,h|⟨g',cap',cur,hv,hb,hg,hn,hm,hs,ht⟩⟩:=h
 ·simp at h
 ·simp at hv;obtain⟨rfl,rfl⟩:=hv;have hil:=(List.getElem?_eq_some_iff.1 hi).1;rw[zjM] at hl;have key:∀j u,(zbC c v)[j]?=some u->w.cell? ⟨g,i*6+j,none⟩=some u:=by
   intro j u hju;have hj:j<6:=(List.getElem?_eq_some_iff.1 hju).1;have:=zp8 c L i j v hi hj;rw[←ht,List.getElem?_take_of_lt (by omega),Array.getElem?_toList,hju] at this;rw[za hg];exact this
  exact⟨key 0 _ rfl,key 1 _ rfl,key 2 _ rfl,key 3 _ rfl,key 4 _ rfl,key 5 _ rfl⟩
structure Rm where
 d:Nat
 l:Value
 c:Int->Nat
 g:Int->Nat
 cap:Int->Nat
def Rm.blk (R:Rm):Pl->Option Nat
 |.top 0=>some R.d
 |.top _=>R.l.ownBlock
 |.win n 0=>some (R.c n)
 |.win n _=>some (R.g n)
def Pl.okR (L:List Wn):Pl->Prop
 |.top k=>k<2
 |.win n k=>k<2/\∃v∈L,v.n=n
def Rm.own (R:Rm) (L:List Wn) (i:Nat):Prop:=∃p:Pl,p.okR L/\R.blk p=some i
def Rm.inj (R:Rm) (L:List Wn):Prop:=∀(p q:Pl) (i:Nat),p.okR L->q.okR L->R.blk p=some i->R.blk q=some i->p=q
structure Zq (w:World) (R:Rm) (L:List Wn) (last:Int):Prop where
 blk:w.heap[R.d]?=some (.cells #[R.l,.int .i64 last] 110)
 row:w.ownsRow 2 107 6 R.l L.length (ZE R.c L)
 win:∀v∈L,Zp w (R.c v.n) (R.g v.n) (R.cap v.n) v.W v.H (v.H*v.W) v.G
 wf:∀v∈L,Wf v.W v.H v.G
 inj:R.inj L
 two:∀i,R.own L i->2<=i
section
variable {w w':World} {R:Rm} {L:List Wn} {last:Int}
theorem Zq.lt (h:Zq w R L last) {i:Nat} (hi:R.own L i):i<w.heap.size:=by
 obtain⟨p,hp,hb⟩:=hi;cases p with
 |top k=>
  have hk:k<2:=hp;match k,hk with
  |0,_=>
    obtain rfl:R.d=i:=by simpa[Rm.blk] using hb
    exact(Array.getElem?_eq_some_iff.1 h.blk).1
  |1,_=>exact(h.row.lt i hb).2
 |win n k=>
  obtain⟨hk,v,hv,rfl⟩:=hp;match k,hk with
  |0,_=>
    obtain rfl:R.c v.n=i:=by simpa[Rm.blk] using hb
    exact(Array.getElem?_eq_some_iff.1 (h.win v hv).blk).1
  |1,_=>
    obtain rfl:R.g v.n=i:=by simpa[Rm.blk] using hb
    exact(h.win v hv).glt
theorem zbp (R:Rm) (L:List Wn):R.own L R.d:=⟨.top 0,(by show 0<2;omega),rfl⟩
theorem zc1 (R:Rm) (L:List Wn) {i:Nat} (hi:R.l.ownBlock=some i):R.own L i:=⟨.top 1,(by show 1<2;omega),hi⟩
theorem zmc (R:Rm) {L:List Wn} {v:Wn} (hv:v∈L):R.own L (R.c v.n):=⟨.win v.n 0,⟨by omega,v,hv,rfl⟩,rfl⟩
theorem zfm (R:Rm) {L:List Wn} {v:Wn} (hv:v∈L):R.own L (R.g v.n):=⟨.win v.n 1,⟨by omega,v,hv,rfl⟩,rfl⟩
theorem Zq.same (h:Zq w R L last) (hs:∀i,R.own L i->w'.heap[i]?=w.heap[i]?):Zq w' R L last:=
 ⟨by rw[hs _ (zbp R L)];exact h.blk,zx h.row (λi hi=>hs i (zc1 R L hi)),λv hv=>(h.win v hv).same (hs _ (zmc R hv)) (hs _ (zfm R hv)),h.wf,h.inj,h.two⟩
theorem Zq.below (h:Zq w R L last) (hb:Below w.heap.size w w'):Zq w' R L last:=h.same (λi hi=>hb.block i (h.lt hi))
theorem Zq.keep {F:Nat->Prop} (h:Zq w R L last) (k:zd F w w') (hF:∀i,R.own L i->¬F i):Zq w' R L last:=h.same (λi hi=>k.block i (h.lt hi) (hF i hi))
theorem Zq.drewN (h:Zq w R L last) (n:Nat):Zq (w.drewN n) R L last:=h.same (λ_ _=>rfl)
theorem Zq.d0 (h:Zq w R L last):w.cell? ⟨R.d,0,none⟩=some R.l:=za h.blk 0
theorem Zq.d1 (h:Zq w R L last):w.cell? ⟨R.d,1,none⟩=some (.int .i64 last):=za h.blk 1
theorem Zq.ne (h:Zq w R L last) {p q:Pl} {i j:Nat} (hp:p.okR L) (hq:q.okR L) (hi:R.blk p=some i) (hj:R.blk q=some j) (hpq:p≠q):i≠j:=λe=>hpq (h.inj p q i hp hq hi (e ▸ hj))
end
def Zr (R:Rm) (L L':List Wn) (last':Int) (w:World) (r:Value) (e:Ending) (w':World):Prop:=
 ∃R',e=.returned r/\Zq w' R' L' last'/\R'.d=R.d/\zd (R.own L) w w'/\∀i,R'.own L' i->R.own L i\/w.heap.size<=i
end
section
open Go.RowKit
attribute [local go_sem ↓] Go.wp_at_zero Go.wp_at_succ
section
variable {w:World} {R:Rm} {L:List Wn} {last:Int}
theorem Zq.sl (h:Zq w R L last) (h1:1<=L.length):∃g cap,R.l=.slice (some ⟨g,0,none⟩) L.length cap/\(∀i v,L[i]?=some v->zvF w g (i*6) (R.c v.n) v)/\(∀o,w.frozen? ⟨g,o,none⟩=false)/\L.length<=cap:=by
 obtain⟨g,cap,e⟩:=zam h.row h1;have hr:=h.row;rw[e] at hr;refine⟨g,cap,e,λi v hi=>zsm hr i v hi,λo=>?_,?_⟩
 ·obtain⟨_,h|⟨g',cap',cur,hv,hb,hg,hn,hm,hs,ht⟩⟩:=hr
  ·simp at h
  ·obtain⟨rfl,_⟩:g=g'/\cap=cap':=by simpa using hv
   exact ze hg o
 ·obtain⟨_,h|⟨g',cap',cur,hv,hb,hg,hn,hm,hs,ht⟩⟩:=hr
  ·simp at h
  ·obtain⟨_,rfl⟩:g=g'/\cap=cap':=by simpa using hv
   exact hn
theorem zuf (h:Zq w R L last) (h1:1<=L.length) (hl16:L.length<=16) (n:Int) (j:Nat) (hj:j<=L.length) (hne:∀i v,i<j->L[i]?=some v->v.n≠n) (hat:∀v,L[j]?=some v->v.n=n):
 Calls Tryz.prog 79 #[.pointer (some ⟨R.d,0,none⟩),.int .i64 n] w λe w'=>e=.returned (.int .i64 (if j<L.length then(j:Int) else -1))/\w'=w:=by
 have d0:=h.d0;obtain⟨g,cap,hl,hw,_,_⟩:=h.sl h1;rw[hl] at d0;have Hw:=zH hw;have Hne:=zH hne;have Hat:=zH hat;clear h hw hne hat hl;go_in;go_wp2_with fail;go_loopw[5] (λi w'=>∃k:Nat,k<=j/\i=.int .i64 k/\w'=w) (λi _=>20-(intOf i).toNat)
 case atStart=>exact⟨0,by omega,rfl,rfl⟩
 case round=>
  obtain⟨k,hk,rfl,rfl⟩:=hrel;by_cases hlt:k<L.length
  ·have hlt':(k:Int)<(L.length:Int):=by omega
   obtain⟨v,hv⟩:∃v,L[k]?=some v:=⟨_,List.getElem?_eq_getElem hlt⟩;obtain⟨c0,_,_,_,_,_⟩:=Hw.out k v hv;by_cases he:k=j
   ·subst he;have hvn:=Hat.out v hv;go_wp2_with fail;go_ret;exact⟨rfl,rfl⟩
   ·have hvn:=Hne.out k v (by omega) hv;clear hv;go_wp2_with fail;go_roundw
    case rel=>exact⟨k+1,by omega,by simp,trivial⟩
    case measure=>simp[intOf];omega
  ·have hlt':¬(k:Int)<(L.length:Int):=by omega
   go_wp2_with fail;go_ret;simp
end
section
variable {R:Rm} {L:List Wn} {last:Int}
theorem zgG (ok:ZK L last) (n:Int):(∃v∈L,v.n=n/\∃j,j<L.length/\L[j]?=some v/\(∀i u,i<j->L[i]?=some u->u.n≠n)/\zG L n=L.eraseIdx j/\(j=0↔n=0))\/zch L n=false:=by
 obtain⟨rk,K,T⟩:=ok.tree;by_cases h:zch L n=true
 ·left;obtain⟨v,hv,rfl⟩:=zaX.1 h;obtain⟨j,h1,h2,h3⟩:=zfk T.nd hv;refine⟨v,hv,rfl,j,(List.getElem?_eq_some_iff.1 h1).1,h1,h2,h3,?_⟩;obtain⟨r,T',e,e1,e2,e3⟩:=T.head;constructor
  ·rintro rfl;rw[e] at h1;obtain rfl:r=v:=by simpa using h1
   exact e1
  ·intro h0;by_cases hj:j=0
   ·exact hj
   ·exact absurd (e1.trans h0.symm) (h2 0 r (by omega) (by rw[e];rfl))
 ·right;simpa using h
theorem ZK.one (ok:ZK L last):1<=L.length:=by
 obtain⟨rk,K,T⟩:=ok.tree;obtain⟨r,hr,_⟩:=T.rootIn;exact List.length_pos_of_mem hr
theorem zbq (ok:ZK L last) (w:World) (h:Zq w R L last) (v:Wn) (j:Nat) (hj:L[j]?=some v) (hne:∀i u,i<j->L[i]?=some u->u.n≠v.n):
 Calls Tryz.prog 79 #[.pointer (some ⟨R.d,0,none⟩),.int .i64 v.n] w λe w'=>e=.returned (.int .i64 j)/\w'=w:=by
 have hl:=(List.getElem?_eq_some_iff.1 hj).1;have:=zuf h ok.one ok.len v.n j (by omega) hne (λu hu=>by rw[hj] at hu;injection hu with e;rw[e]);rw[if_pos hl] at this;exact this
theorem zez (ok:ZK L last) (w:World) (h:Zq w R L last) (n:Int) (hn:zch L n=false):
 Calls Tryz.prog 79 #[.pointer (some ⟨R.d,0,none⟩),.int .i64 n] w λe w'=>e=.returned (.int .i64 (-1))/\w'=w:=by
 have hno:∀u∈L,u.n≠n:=λu hu e=>by have:=zaX.2 ⟨u,hu,e⟩;rw[hn] at this;simp at this
 have:=zuf h ok.one ok.len n L.length (Nat.le_refl _) (λi u _ hu=>hno u (List.mem_of_getElem? hu)) (λu hu=>by simp at hu);rw[if_neg (by omega)] at this;exact this
theorem zeW (w:World) (n:Int):
 Calls Tryz.prog 79 #[.pointer none,.int .i64 n] w λe w'=>e=.returned (.int .i64 (-1))/\w'=w:=by
 go_in;go_wp2_with fail;go_ret;exact⟨rfl,rfl⟩
theorem zeX (ok:ZK L last) (w:World) (h:Zq w R L last) (v:Wn) (j:Nat) (hj:L[j]?=some v) (hne:∀i u,i<j->L[i]?=some u->u.n≠v.n) (hj0:j≠0):
 Calls Tryz.prog 143 #[.pointer (some ⟨R.d,0,none⟩),.int .i64 v.n] w λe w'=>e=.returned (.tuple #[.int .i64 j,.int .i64 0])/\w'=w:=by
 have H:=zH<|zbq ok w h v j hj hne
 have h1:¬(j:Int)<0:=by omega
 have h2:¬(j:Int)=0:=by omega
 clear h hj hne;go_in;go_wp2_with (first|(go_at_call 79;refine sM H.out ?_));go_ret2;exact⟨rfl,rfl⟩
theorem zdE (ok:ZK L last) (w:World) (h:Zq w R L last) (n:Int) (he:zU L n≠0):
 Calls Tryz.prog 143 #[.pointer (some ⟨R.d,0,none⟩),.int .i64 n] w λe w'=>e=.returned (.tuple #[.int .i64 (-1),.int .i64 (zU L n)])/\w'=w:=by
 unfold zU at he ⊢;rcases zgG ok n with⟨v,hv,rfl,j,hjl,hj,hne,_,h0⟩|hn
 ·have hh:=zaX.2 ⟨v,hv,rfl⟩;rw[if_neg (by simp[hh])] at he ⊢;by_cases e0:v.n=0
  ·rw[if_pos e0];obtain rfl:=h0.2 e0;have H:Hid (Calls Tryz.prog 79 #[.pointer (some ⟨R.d,0,none⟩),.int .i64 v.n] w λe w'=>e=.returned (.int .i64 0)/\w'=w):=zbq ok w h v 0 hj hne;clear h hj hne he h0 e0;go_in;go_wp2_with (first|(go_at_call 79;refine sM H.out ?_));go_ret2;exact⟨rfl,rfl⟩
  ·rw[if_neg e0] at he;omega
 ·rw[if_pos hn];have H:=zH<|zez ok w h n hn
  clear h he;go_in;go_wp2_with (first|(go_at_call 79;refine sM H.out ?_));go_ret2;exact⟨rfl,rfl⟩
theorem zc3 (w:World) (n:Int):
 Calls Tryz.prog 143 #[.pointer none,.int .i64 n] w λe w'=>e=.returned (.tuple #[.int .i64 (-1),.int .i64 1])/\w'=w:=by
 go_in;go_wp2_with (first|(go_at_call 79;refine sM (zeW _ _) ?_));go_ret2;exact⟨rfl,rfl⟩
theorem zbk (x y:Int) (w:World):
 Calls Tryz.prog 80 #[.int .i64 x,.int .i64 y] w λe w'=>e=.returned (.bool (Zt x y))/\w'=w:=by
 cases h1:Wd.inB x (-1000) 1000<;>cases h2:Wd.inB y (-1000) 1000;all_goals
  go_in;go_wp2_with (first|(go_at_call 86;refine sM (Wd.refBetween _ _ _ _) ?_));go_ret;exact⟨by simp[Zt,h1,h2],rfl⟩
theorem znn (p:Pn) (w:World):
 Calls Tryz.prog 81 #[p.agg] w λe w'=>e=.returned (.bool (zdA p))/\Below w.heap.size w w':=by
 cases h1:Wd.inB p.f 0 8<;>cases h2:Wd.inB p.b 0 8;all_goals
  go_in;go_wp2_with (first|(go_at_call 86;refine sM (Wd.refBetween _ _ _ _) ?_));go_ret;exact⟨by simp[zdA,h1,h2],(Below.refl _ _).alloc (Nat.le_refl _) _⟩
end
theorem zg8 {w:World} {base:Nat} {e:TypeId} {size g n cap:Nat} {xs:List Value} (h:w.ownsRow base e size (.slice (some ⟨g,0,none⟩) n cap) n xs) (k:Nat) (u:Value):(w.setCell ⟨g,k,none⟩ u).ownsRow base e size (.slice (some ⟨g,0,none⟩) n cap) n (xs.set k u):=by
 obtain⟨hl,h|⟨g',cap',cur,hv,hb,hg,hn,hm,hs,ht⟩⟩:=h
 ·simp at h
 ·obtain⟨rfl,rfl⟩:g=g'/\cap=cap':=by simpa using hv
  refine⟨by simpa using hl,.inr ⟨g,cap,_,rfl,hb,zbf hg u,hn,hm,by simpa using hs,?_⟩⟩;rw[Array.toList_setIfInBounds,List.take_set,ht]
theorem zeY (c:Int->Nat):∀(L:List Wn) (j k:Nat) (v v':Wn) (u:Value),L[j]?=some v->k<6->zbC c v'=(zbC c v).set k u->(ZE c L).set (j*6+k) u=ZE c (L.set j v'):=by
 intro L;induction L with
 |nil=>intro j k v v' u h;simp at h
 |cons a L ih=>
  intro j k v v' u h hk hv;have e:∀(a:Wn) L,ZE c (a::L)=zbC c a++ZE c L:=λa L=>by simp[ZE]
  have hl:(zbC c a).length=6:=rfl;cases j with
  |zero=>
   obtain rfl:a=v:=by simpa using h
   rw[List.set_cons_zero,e,e,Nat.zero_mul,Nat.zero_add,List.set_append_left _ _ (by omega),hv]
  |succ j=>
   rw[List.set_cons_succ,e,e,List.set_append_right _ _ (by omega),hl,show(j+1)*6+k-6=j*6+k by omega,ih j k v v' u (by simpa using h) hk hv]
theorem zkI {L:List Wn} (nd:(L.map Wn.n).Nodup) {v:Wn} {j:Nat} (hj:L[j]?=some v) (f:Wn->Wn):zY L v.n f=L.set j (f v):=by
 unfold zY;apply List.ext_getElem?;intro i;rw[List.getElem?_map,List.getElem?_set];by_cases e:j=i
 ·subst e;have hl:=(List.getElem?_eq_some_iff.1 hj).1;rw[hj];simp[hl]
 ·rw[if_neg e];cases hi:L[i]? with
  |none=>rfl
  |some u=>
   have hne:u.n≠v.n:=λhn=>by
    have h1:=(List.getElem?_eq_some_iff.1 hi).1;have h2:=(List.getElem?_eq_some_iff.1 hj).1;have:=List.getElem_inj (i:=j) (j:=i) (h₀:=by simpa using h2) (h₁:=by simpa using h1) nd;exact e (this.1 (by rw[List.getElem_map,List.getElem_map,(List.getElem?_eq_some_iff.1 hi).2,(List.getElem?_eq_some_iff.1 hj).2,hn]))
   simp[hne]
section
variable {R:Rm} {L:List Wn} {last:Int}
theorem Zr.stay {w w':World} {r:Value} (h:Zq w R L last) (hb:Below w.heap.size w w'):Zr R L L last w r (.returned r) w' :=
 ⟨R,rfl,h.below hb,rfl,zd.below _ hb,λ_ hi=>.inl hi⟩
theorem zno {f:Wn->Wn} {n:Int} (hnn:∀u∈L,u.n=n->(f u).n=n) (p:Pl):p.okR (zY L n f)↔p.okR L:=by
 cases p with
 |top k=>exact Iff.rfl
 |win m k=>
  have e:=zeV hnn;have h1:(∃u∈zY L n f,u.n=m)↔m∈(zY L n f).map Wn.n:=by simp
  have h2:(∃u∈L,u.n=m)↔m∈L.map Wn.n:=by simp
  show _/\_↔_/\_;rw[h1,h2,e]
theorem Zq.setRow {w w':World} (h:Zq w R L last) (ok:ZK L last) {v:Wn} {j g cap:Nat} (hj:L[j]?=some v) (hl:R.l=.slice (some ⟨g,0,none⟩) L.length cap) (f:Wn->Wn) (hfn:∀u,(f u).n=u.n) (hfG:∀u,(f u).W=u.W/\(f u).H=u.H/\(f u).G=u.G)
 (hr:w'.ownsRow 2 107 6 (.slice (some ⟨g,0,none⟩) L.length cap) L.length (ZE R.c (L.set j (f v)))) (hk:zd (λi=>i=g) w w') (r:Value):Zr R L (zY L v.n f) last w r (.returned r) w':=by
 obtain⟨rk,K,T⟩:=ok.tree;have hv:=List.mem_of_getElem? hj;have hg:R.l.ownBlock=some g:=by rw[hl];rfl
 have hok:=zno (L:=L) (n:=v.n) (f:=f) (λu _ e=>by rw[hfn];exact e);have kp:=λp i hp e n1=>hk.block i (h.lt ⟨p,hp,e⟩) (λe'=>h.ne (p:=p) (q:=.top 1) hp (show 1<2 by omega) e hg n1 e');have hown:∀i,R.own (zY L v.n f) i->R.own L i:=λi ⟨p,a,b⟩=>⟨p,(hok p).1 a,b⟩;have hmem:∀u∈zY L v.n f,∃u0∈L,u.n=u0.n/\u.W=u0.W/\u.H=u0.H/\u.G=u0.G:=λu hu=>by
  obtain⟨u0,h0,e⟩:=List.mem_map.1 hu;refine⟨u0,h0,?_⟩;split at e
  ·subst e;exact⟨hfn u0,hfG u0⟩
  ·subst e;exact⟨rfl,rfl,rfl,rfl⟩
 refine⟨R,rfl,⟨(kp (.top 0) _ (show 0<2 by omega) rfl (by simp)).trans h.blk,?_,?_,?_,λp q i hp hq=>h.inj p q i ((hok p).1 hp) ((hok q).1 hq),λi hi=>h.two i (hown i hi)⟩,rfl,hk.mono (λi e=>e ▸ zc1 R L hg),λi hi=>.inl (hown i hi)⟩
 ·rw[zkI T.nd hj,hl,List.length_set];exact hr
 ·intro u hu;obtain⟨u0,h0,e1,e2,e3,e4⟩:=hmem u hu;rw[e1,e2,e3,e4];exact(h.win u0 h0).same (kp (.win u0.n 0) _ ⟨by omega,u0,h0,rfl⟩ rfl (by simp)) (kp (.win u0.n 1) _ ⟨by omega,u0,h0,rfl⟩ rfl (by simp))
 ·intro u hu;obtain⟨u0,h0,e1,e2,e3,e4⟩:=hmem u hu;rw[e2,e3,e4];exact h.wf u0 h0
theorem zug (ok:ZK L last) (w:World) (h:Zq w R L last) (v:Wn) (j:Nat) (hj:L[j]?=some v) (hne:∀i u,i<j->L[i]?=some u->u.n≠v.n) (hj0:j≠0) (b:Bool):
 Calls Tryz.prog 101 #[.pointer (some ⟨R.d,0,none⟩),.int .i64 v.n,.bool b] w (Zr R L (zY L v.n (λu=>{u with sh:=b})) last w (.int .i64 0)):=by
 have HR:=zH h;have H:=zH<|zeX ok w h v j hj hne hj0
 have d0:=h.d0;obtain⟨g,cap,hl,hw,hfz,_⟩:=h.sl ok.one;rw[hl] at d0;have hr:=h.row;rw[hl] at hr;obtain⟨c0,c1,c2,c3,c4,c5⟩:=hw j v hj;have hjl:=(List.getElem?_eq_some_iff.1 hj).1;have hjl':(j:Int)<(L.length:Int):=by omega
 have hz:=zH ok.len;have HP:Hid (Zr R L (zY L v.n (λu=>{u with sh:=b})) last w (.int .i64 0) (.returned (.int .i64 0)) (w.setCell ⟨g,j*6+4,none⟩ (.bool b))):=
  h.setRow ok hj hl (λu=>{u with sh:=b}) (λ_=>rfl) (λ_=>⟨rfl,rfl,rfl⟩) (by rw[←zeY R.c L j 4 v _ (.bool b) hj (by omega) rfl];exact zg8 hr _ _) ((zd.refl _ _).setCell _ _ (λ_=>rfl)) _
 clear h hr hw hj hne hl;go_in;go_wp2_with (first|(go_at_call 143;refine sM H.out ?_));go_ret;exact HP.out
theorem zqa (ok:ZK L last) (w:World) (h:Zq w R L last) (v:Wn) (j:Nat) (hj:L[j]?=some v) (hne:∀i u,i<j->L[i]?=some u->u.n≠v.n) (hj0:j≠0) (x y:Int) (hp:Zt x y=true):
 Calls Tryz.prog 98 #[.pointer (some ⟨R.d,0,none⟩),.int .i64 v.n,.int .i64 x,.int .i64 y] w (Zr R L (zY L v.n (λu=>{u with x:=x,y:=y})) last w (.int .i64 0)):=by
 have HR:=zH h;have H:=zH<|zeX ok w h v j hj hne hj0
 have d0:=h.d0;obtain⟨g,cap,hl,hw,hfz,_⟩:=h.sl ok.one;rw[hl] at d0;have hr:=h.row;rw[hl] at hr;obtain⟨c0,c1,c2,c3,c4,c5⟩:=hw j v hj;have hjl:=(List.getElem?_eq_some_iff.1 hj).1;have hjl':(j:Int)<(L.length:Int):=by omega
 have hz:=zH ok.len;have hgd:g≠R.d:=h.ne (p:=.top 1) (q:=.top 0) (show 1<2 by omega) (show 0<2 by omega) (by show R.l.ownBlock=_;rw[hl];rfl) rfl (by simp);have HP:Hid (Zr R L (zY L v.n (λu=>{u with x:=x,y:=y})) last w (.int .i64 0) (.returned (.int .i64 0)) ((w.setCell ⟨g,j*6+2,none⟩ (.int .i64 x)).setCell ⟨g,j*6+3,none⟩ (.int .i64 y))):=by
  refine h.setRow ok hj hl (λu=>{u with x:=x,y:=y}) (λ_=>rfl) (λ_=>⟨rfl,rfl,rfl⟩) ?_ (((zd.refl (λi=>i=g) w).setCell ⟨g,j*6+2,none⟩ _ (λ_=>rfl)).setCell ⟨g,j*6+3,none⟩ _ (λ_=>rfl)) _;have e1:=zeY R.c L j 2 v {v with x:=x} (.int .i64 x) hj (by omega) rfl;have e2:=zeY R.c (L.set j {v with x:=x}) j 3 {v with x:=x} {v with x:=x,y:=y} (.int .i64 y) (by rw[List.getElem?_set_self hjl]) (by omega) rfl;rw[List.set_set] at e2;rw[←e2,←e1];exact zg8 (zg8 hr _ _) _ _
 clear h hr hw hj hne hl;go_in;go_wp2_with (first|(go_at_call 143;refine sM H.out ?_)|(go_at_call 80;refine sM (zbk _ _ _) ?_));go_ret;exact HP.out
end
section
variable {R:Rm} {L:List Wn} {last:Int}
theorem zn9 (c:Int->Nat) (n:Int) (f:Wn->Wn) (hf:∀u,zbC c (f u)=zbC c u):ZE c (zY L n f)=ZE c L:=by
 unfold ZE zY;rw[List.flatMap_map];congr 1;funext u;show zbC c (if u.n=n then f u else u)=zbC c u;split
 ·exact hf u
 ·rfl
def Rm.setG (R:Rm) (n:Int) (g cap:Nat):Rm:={R with g:=Zo R.g n g,cap:=Zo R.cap n cap}
theorem ziW {n:Int} {g cap:Nat} {p:Pl} (hp:p≠.win n 1) (hk:∀m k,p=.win m k->k<2):(R.setG n g cap).blk p=R.blk p:=by
 cases p with
 |top k=>cases k<;>rfl
 |win m k=>
  have:=hk m k rfl;match k,this with
  |0,_=>rfl
  |1,_=>
   show some (Zo R.g n g m)=some (R.g m);rw[zn _ _ (λe=>hp (by rw[e]))]
theorem ztI {p:Pl} (h:p.okR L):∀m k,p=.win m k->k<2:=by
 rintro m k rfl;exact h.1
theorem Zq.setG {w w':World} (h:Zq w R L last) (ok:ZK L last) {v:Wn} (hv:v∈L) (W' H' g' cap':Nat) (G':Nat->Nat->zk) (hwf:Wf W' H' G') (hc:Zp w' (R.c v.n) g' cap' W' H' (H'*W') G')
 (hk:zd (λi=>i=R.c v.n\/i=R.g v.n) w w') (hg:g'=R.g v.n\/w.heap.size<=g') (r:Value):Zr R L (zY L v.n (λu=>{u with W:=W',H:=H',G:=G'})) last w r (.returned r) w':=by
 obtain⟨rk,K,T⟩:=ok.tree;have hok:=zno (L:=L) (n:=v.n) (f:=λu=>{u with W:=W',H:=H',G:=G'}) (λu _ e=>e);have kp:∀(p:Pl) (i:Nat),p.okR L->R.blk p=some i->p≠.win v.n 0->p≠.win v.n 1->w'.heap[i]?=w.heap[i]?:=λp i hp e n1 n2=>hk.block i (h.lt ⟨p,hp,e⟩) (by
  rintro(e'|e')
  ·exact h.ne (p:=p) (q:=.win v.n 0) hp ⟨by omega,v,hv,rfl⟩ e rfl n1 e'
  ·exact h.ne (p:=p) (q:=.win v.n 1) hp ⟨by omega,v,hv,rfl⟩ e rfl n2 e')
 have hb1:(R.setG v.n g' cap').blk (.win v.n 1)=some g':=by show some (Zo R.g v.n g' v.n)=_;rw[zD]
 have hown:∀i,(R.setG v.n g' cap').own (zY L v.n (λu=>{u with W:=W',H:=H',G:=G'})) i->R.own L i\/w.heap.size<=i:=λi ⟨p,hp,e⟩=>by
  have hp':=(hok p).1 hp;by_cases e1:p=.win v.n 1
  ·subst e1;rw[hb1] at e;obtain rfl:g'=i:=by simpa using e
   rcases hg with rfl|hg
   ·exact .inl (zfm R hv)
   ·exact .inr hg
  ·exact .inl ⟨p,hp',by rw[←ziW e1 (ztI hp')];exact e⟩
 have h0:=h.two _ (zbp R L);have h1:=h.lt (zbp R L);refine⟨R.setG v.n g' cap',rfl,⟨(kp (.top 0) _ (show 0<2 by omega) rfl (by simp) (by simp)).trans h.blk,?_,?_,?_,?_,?_⟩,rfl,hk.mono (λi e=>by rcases e with rfl|rfl;exact zmc R hv;exact zfm R hv),hown⟩
 ·show w'.ownsRow _ _ _ R.l _ (ZE R.c _);rw[zn9 R.c v.n (λu=>{u with W:=W',H:=H',G:=G'}) (λ_=>rfl),show(zY L v.n (λu=>{u with W:=W',H:=H',G:=G'})).length=L.length by simp[zY]];exact zx h.row (λi hi=>kp (.top 1) i (show 1<2 by omega) hi (by simp) (by simp))
 ·intro u hu;show Zp w' (R.c u.n) (Zo R.g v.n g' u.n) (Zo R.cap v.n cap' u.n) u.W u.H (u.H*u.W) u.G;rcases zfE hv rfl u hu T.nd with rfl|⟨huL,hne⟩
  ·show Zp w' (R.c v.n) (Zo R.g v.n g' v.n) (Zo R.cap v.n cap' v.n) W' H' (H'*W') G';rw[zD,zD];exact hc
  ·rw[zn _ _ hne,zn _ _ hne];have hne':∀k j,(Pl.win u.n k)≠.win v.n j:=λk j e=>by injection e with e1;exact hne e1
   exact(h.win u huL).same (kp (.win u.n 0) _ ⟨by omega,u,huL,rfl⟩ rfl (hne' _ _) (hne' _ _)) (kp (.win u.n 1) _ ⟨by omega,u,huL,rfl⟩ rfl (hne' _ _) (hne' _ _))
 ·intro u hu;rcases zfE hv rfl u hu T.nd with rfl|⟨huL,hne⟩
  ·exact hwf
  ·exact h.wf u huL
 ·intro p q i hp hq e1 e2;have hp':=(hok p).1 hp;have hq':=(hok q).1 hq;have old:∀p:Pl,p.okR L->p≠.win v.n 1->(R.setG v.n g' cap').blk p=R.blk p:=λp hp hn=>ziW hn (ztI hp);by_cases c1:p=.win v.n 1
  ·by_cases c2:q=.win v.n 1
   ·rw[c1,c2]
   ·rw[c1,hb1] at e1;obtain rfl:g'=i:=by simpa using e1
    rw[old q hq' c2] at e2;rcases hg with rfl|hg
    ·rw[c1];exact h.inj _ _ _ ⟨by omega,v,hv,rfl⟩ hq' rfl e2
    ·have:=h.lt ⟨q,hq',e2⟩;omega
  ·by_cases c2:q=.win v.n 1
   ·rw[c2,hb1] at e2;obtain rfl:g'=i:=by simpa using e2
    rw[old p hp' c1] at e1;rcases hg with rfl|hg
    ·rw[c2];exact h.inj _ _ _ hp' ⟨by omega,v,hv,rfl⟩ e1 rfl
    ·have:=h.lt ⟨p,hp',e1⟩;omega
   ·rw[old p hp' c1] at e1;rw[old q hq' c2] at e2;exact h.inj p q i hp' hq' e1 e2
 ·intro i hi;rcases hown i hi with e|e
  ·exact h.two i e
  ·omega
theorem zjN (ok:ZK L last) {v:Wn} (hv:v∈L) {G:Nat->Nat->zk}:zY L v.n (λu=>{u with W:=v.W,H:=v.H,G:=G})=zY L v.n (λu=>{u with G:=G}):=by
 obtain⟨rk,K,T⟩:=ok.tree;unfold zY;refine List.map_congr_left λu hu=>?_;by_cases e:u.n=v.n
 ·obtain rfl:=zak T.nd hu hv e;rfl
 ·rw[if_neg e,if_neg e]
theorem zsn (ok:ZK L last) (w:World) (h:Zq w R L last) (v:Wn) (j:Nat) (hj:L[j]?=some v) (hne:∀i u,i<j->L[i]?=some u->u.n≠v.n) (hj0:j≠0) (W' H':Nat) (hs:ZC W' H'=true):
 Calls Tryz.prog 99 #[.pointer (some ⟨R.d,0,none⟩),.int .i64 v.n,.int .i64 W',.int .i64 H'] w (Zr R L (zY L v.n (λu=>{u with W:=W',H:=H',G:=ZJ v.W v.H W' v.G})) last w (.int .i64 0)):=by
 have HR:=zH h;have hv:=List.mem_of_getElem? hj;have H:=zH<|zeX ok w h v j hj hne hj0
 have d0:=h.d0;obtain⟨g,cap,hl,hw,hfz,_⟩:=h.sl ok.one;rw[hl] at d0;obtain⟨c0,c1,c2,c3,c4,c5⟩:=hw j v hj;have hjl:=(List.getElem?_eq_some_iff.1 hj).1;have hjl':(j:Int)<(L.length:Int):=by omega
 have hz:=Zs.1 hs;clear h hw hj hne hl;go_in;go_wp2_with (first|(go_at_call 143;refine sM H.out ?_)|(go_at_call 73;refine sM (zbv _ _ _) ?_));go_at_call 90;refine(zhj (R.c v.n) (R.g v.n) (R.cap v.n) v.W v.H _ W' H' v.G _ (HR.out.win v hv) (HR.out.wf v hv) (by omega) (by omega) (by omega) (by omega)).mono ?_;rintro e wa ⟨g',cap',rfl,C1,K1,hg⟩;have HP:Hid (Zr R L (zY L v.n (λu=>{u with W:=W',H:=H',G:=ZJ v.W v.H W' v.G})) last w (.int .i64 0) (.returned (.int .i64 0)) wa):=HR.out.setG ok hv W' H' g' cap' _ (HR.out.wf v hv).sized C1 (K1.mono (λi e=>.inl e)) (.inr hg) _;clear C1 K1 hg HR;go_wp2_with fail;go_ret;exact HP.out
theorem zqb (ok:ZK L last) (w:World) (h:Zq w R L last) (v:Wn) (j:Nat) (hj:L[j]?=some v) (hne:∀i u,i<j->L[i]?=some u->u.n≠v.n) (n:Int):
 Calls Tryz.prog 36 #[.pointer (some ⟨R.d,0,none⟩),.int .i64 v.n,.int .i64 n] w (Zr R L (zY L v.n (λu=>{u with G:=zo 0 ((v.H:Int)-1) n Pn.plain v.G})) last w (.int .i64 0)):=by
 have HR:=zH h;have hv:=List.mem_of_getElem? hj;have H:=zH<|zbq ok w h v j hj hne
 have d0:=h.d0;obtain⟨g,cap,hl,hw,hfz,_⟩:=h.sl ok.one;rw[hl] at d0;obtain⟨c0,c1,c2,c3,c4,c5⟩:=hw j v hj;have hjl:=(List.getElem?_eq_some_iff.1 hj).1;have hjl':(j:Int)<(L.length:Int):=by omega
 have hj1:¬(j:Int)<0:=by omega
 have e1:=(h.win v hv).c1;have h1:=(h.win v hv).h1;have h2:=(h.win v hv).h2;clear h hw hj hne hl;go_in;go_wp2_with (first|(go_at_call 79;refine sM H.out ?_));have hs:=ziC (R.c v.n) (R.g v.n) (R.cap v.n) v.W v.H _ v.G 0 (v.H-1) n Pn.plain w (HR.out.win v hv) (by omega);rw[show((v.H-1:Nat):Int)=(v.H:Int)-1 by omega] at hs;go_at_call 89;refine hs.mono ?_;rintro e wa ⟨g',cap',rfl,C1,K1,hg⟩;have HP:Hid (Zr R L (zY L v.n (λu=>{u with G:=zo 0 ((v.H:Int)-1) n Pn.plain v.G})) last w (.int .i64 0) (.returned (.int .i64 0)) wa):=by
  show Zr _ _ _ _ _ _ _ _;rw[←zjN ok hv];exact HR.out.setG ok hv v.W v.H g' cap' _ ((HR.out.wf v hv).scroll 0 _ n _ (by omega) (by omega)) C1 (K1.mono (λi e=>.inl e)) (.inr hg) _
 clear C1 K1 hg HR hs;go_wp2_with fail;go_ret;exact HP.out
theorem zqc (ok:ZK L last) (w:World) (h:Zq w R L last) (v:Wn) (hj:L[0]?=some v) (W' H':Nat) (hs:ZC W' H'=true):
 Calls Tryz.prog 37 #[.pointer (some ⟨R.d,0,none⟩),.int .i64 W',.int .i64 H'] w (Zr R L (zY L v.n (λu=>{u with W:=W',H:=H',G:=ZJ v.W v.H W' v.G})) last w (.int .i64 0)):=by
 have HR:=zH h;have hv:=List.mem_of_getElem? hj;have d0:=h.d0;obtain⟨g,cap,hl,hw,hfz,_⟩:=h.sl ok.one;rw[hl] at d0;obtain⟨c0,c1,c2,c3,c4,c5⟩:=hw 0 v hj;rw[Nat.zero_mul] at c0 c1 c2 c3 c4 c5;have hjl:=ok.one;have hjl':(0:Int)<(L.length:Int):=by omega
 have hz:=Zs.1 hs;clear h hw hj hl;go_in;go_wp2_with (first|(go_at_call 73;refine sM (zbv _ _ _) ?_));go_at_call 90;refine(zhj (R.c v.n) (R.g v.n) (R.cap v.n) v.W v.H _ W' H' v.G _ (HR.out.win v hv) (HR.out.wf v hv) (by omega) (by omega) (by omega) (by omega)).mono ?_;rintro e wa ⟨g',cap',rfl,C1,K1,hg⟩;have HP:Hid (Zr R L (zY L v.n (λu=>{u with W:=W',H:=H',G:=ZJ v.W v.H W' v.G})) last w (.int .i64 0) (.returned (.int .i64 0)) wa):=HR.out.setG ok hv W' H' g' cap' _ (HR.out.wf v hv).sized C1 (K1.mono (λi e=>.inl e)) (.inr hg) _;clear C1 K1 hg HR;go_wp2_with fail;go_ret;exact HP.out
end
section
variable {R:Rm} {L:List Wn} {last:Int}
theorem zqd (ok:ZK L last) (w:World) (h:Zq w R L last) (n:Int) (b:Bool) (he:zU L n≠0):
 Calls Tryz.prog 101 #[.pointer (some ⟨R.d,0,none⟩),.int .i64 n,.bool b] w λe w'=>e=.returned (.int .i64 (zU L n))/\w'=w:=by
 have H:=zH<|zdE ok w h n he
 clear h;generalize zU L n=er at *;go_in;go_wp2_with (first|(go_at_call 143;refine sM H.out ?_));go_ret;exact⟨rfl,rfl⟩
theorem zoa (w:World) (n:Int) (b:Bool):
 Calls Tryz.prog 101 #[.pointer none,.int .i64 n,.bool b] w λe w'=>e=.returned (.int .i64 1)/\w'=w:=by
 go_in;go_wp2_with (first|(go_at_call 143;refine sM (zc3 _ _) ?_));go_ret;exact⟨rfl,rfl⟩
theorem zqe (ok:ZK L last) (w:World) (h:Zq w R L last) (n:Int) (x y:Int) (he:zU L n≠0):
 Calls Tryz.prog 98 #[.pointer (some ⟨R.d,0,none⟩),.int .i64 n,.int .i64 x,.int .i64 y] w λe w'=>e=.returned (.int .i64 (zU L n))/\w'=w:=by
 have H:=zH<|zdE ok w h n he
 clear h;generalize zU L n=er at *;go_in;go_wp2_with (first|(go_at_call 143;refine sM H.out ?_));go_ret;exact⟨rfl,rfl⟩
theorem zob (w:World) (n:Int) (x y:Int):
 Calls Tryz.prog 98 #[.pointer none,.int .i64 n,.int .i64 x,.int .i64 y] w λe w'=>e=.returned (.int .i64 1)/\w'=w:=by
 go_in;go_wp2_with (first|(go_at_call 143;refine sM (zc3 _ _) ?_));go_ret;exact⟨rfl,rfl⟩
theorem zoc (ok:ZK L last) (w:World) (h:Zq w R L last) (n:Int) (x y:Int) (he:zU L n≠0):
 Calls Tryz.prog 99 #[.pointer (some ⟨R.d,0,none⟩),.int .i64 n,.int .i64 x,.int .i64 y] w λe w'=>e=.returned (.int .i64 (zU L n))/\w'=w:=by
 have H:=zH<|zdE ok w h n he
 clear h;generalize zU L n=er at *;go_in;go_wp2_with (first|(go_at_call 143;refine sM H.out ?_));go_ret;exact⟨rfl,rfl⟩
theorem zme (w:World) (n:Int) (x y:Int):
 Calls Tryz.prog 99 #[.pointer none,.int .i64 n,.int .i64 x,.int .i64 y] w λe w'=>e=.returned (.int .i64 1)/\w'=w:=by
 go_in;go_wp2_with (first|(go_at_call 143;refine sM (zc3 _ _) ?_));go_ret;exact⟨rfl,rfl⟩
theorem zod (ok:ZK L last) (w:World) (h:Zq w R L last) (n:Int) (b:Bool) (he:zU L n≠0):
 Calls Tryz.prog 100 #[.pointer (some ⟨R.d,0,none⟩),.int .i64 n,.bool b] w λe w'=>e=.returned (.int .i64 (zU L n))/\w'=w:=by
 have H:=zH<|zdE ok w h n he
 clear h;generalize zU L n=er at *;go_in;go_wp2_with (first|(go_at_call 143;refine sM H.out ?_));go_ret;exact⟨rfl,rfl⟩
theorem zmf (w:World) (n:Int) (b:Bool):
 Calls Tryz.prog 100 #[.pointer none,.int .i64 n,.bool b] w λe w'=>e=.returned (.int .i64 1)/\w'=w:=by
 go_in;go_wp2_with (first|(go_at_call 143;refine sM (zc3 _ _) ?_));go_ret;exact⟨rfl,rfl⟩
theorem zmg (ok:ZK L last) (w:World) (h:Zq w R L last) (n:Int)  (he:zU L n≠0):
 Calls Tryz.prog 97 #[.pointer (some ⟨R.d,0,none⟩),.int .i64 n] w λe w'=>e=.returned (.int .i64 (zU L n))/\w'=w:=by
 have H:=zH<|zdE ok w h n he
 clear h;generalize zU L n=er at *;go_in;go_wp2_with (first|(go_at_call 143;refine sM H.out ?_));go_ret;exact⟨rfl,rfl⟩
theorem zkJ (w:World) (n:Int)  :
 Calls Tryz.prog 97 #[.pointer none,.int .i64 n] w λe w'=>e=.returned (.int .i64 1)/\w'=w:=by
 go_in;go_wp2_with (first|(go_at_call 143;refine sM (zc3 _ _) ?_));go_ret;exact⟨rfl,rfl⟩
theorem zoe (ok:ZK L last) (w:World) (h:Zq w R L last) (v:Wn) (j:Nat) (hj:L[j]?=some v) (hne:∀i u,i<j->L[i]?=some u->u.n≠v.n) (hj0:j≠0) (x y:Int) (hp:Zt x y=false):
 Calls Tryz.prog 98 #[.pointer (some ⟨R.d,0,none⟩),.int .i64 v.n,.int .i64 x,.int .i64 y] w λe w'=>e=.returned (.int .i64 4)/\w'=w:=by
 have H:=zH<|zeX ok w h v j hj hne hj0
 clear h hj hne;go_in;go_wp2_with (first|(go_at_call 143;refine sM H.out ?_)|(go_at_call 80;refine sM (zbk _ _ _) ?_));go_ret;exact⟨rfl,rfl⟩
theorem zmh (ok:ZK L last) (w:World) (h:Zq w R L last) (v:Wn) (j:Nat) (hj:L[j]?=some v) (hne:∀i u,i<j->L[i]?=some u->u.n≠v.n) (hj0:j≠0) (x y:Int) (hp:ZC x y=false):
 Calls Tryz.prog 99 #[.pointer (some ⟨R.d,0,none⟩),.int .i64 v.n,.int .i64 x,.int .i64 y] w λe w'=>e=.returned (.int .i64 3)/\w'=w:=by
 have H:=zH<|zeX ok w h v j hj hne hj0
 clear h hj hne;go_in;go_wp2_with (first|(go_at_call 143;refine sM H.out ?_)|(go_at_call 73;refine sM (zbv _ _ _) ?_));go_ret;exact⟨rfl,rfl⟩
theorem zmi (ok:ZK L last) (w:World) (h:Zq w R L last) (n k:Int) (hn:zch L n=false):
 Calls Tryz.prog 36 #[.pointer (some ⟨R.d,0,none⟩),.int .i64 n,.int .i64 k] w λe w'=>e=.returned (.int .i64 1)/\w'=w:=by
 have H:=zH<|zez ok w h n hn
 clear h;go_in;go_wp2_with (first|(go_at_call 79;refine sM H.out ?_));go_ret;exact⟨rfl,rfl⟩
theorem zkK (w:World) (n k:Int):
 Calls Tryz.prog 36 #[.pointer none,.int .i64 n,.int .i64 k] w λe w'=>e=.returned (.int .i64 1)/\w'=w:=by
 go_in;go_wp2_with (first|(go_at_call 79;refine sM (zeW _ _) ?_));go_ret;exact⟨rfl,rfl⟩
theorem zmj (w:World) (d:Nat) (x y:Int) (hs:ZC x y=false):
 Calls Tryz.prog 37 #[.pointer (some ⟨d,0,none⟩),.int .i64 x,.int .i64 y] w λe w'=>e=.returned (.int .i64 3)/\w'=w:=by
 go_in;go_wp2_with (first|(go_at_call 73;refine sM (zbv _ _ _) ?_));go_ret;exact⟨rfl,rfl⟩
theorem zkL (w:World) (x y:Int):
 Calls Tryz.prog 37 #[.pointer none,.int .i64 x,.int .i64 y] w λe w'=>e=.returned (.int .i64 1)/\w'=w:=by
 go_in;go_wp2_with fail;go_ret;exact⟨rfl,rfl⟩
end
theorem zof {W H:Nat} {G:Nat->Nat->zk} (hw:Wf W H G) (x0 x1:Int) (y:Nat) (p:Pn):ZX W H (zaH W x0 x1 y p G) (wrt G (rg x0 x1 y) (λ_ _=>blk p)):=by
 unfold zaH;refine zbm hw (λa b ha hb=>?_) (λ_ _ _ _ _=>rfl);rw[Bool.eq_iff_iff,zjt];simp[ha,and_assoc]
section
variable {R:Rm} {L:List Wn} {last:Int}
theorem zuh (ok:ZK L last) (w:World) (h:Zq w R L last) (v:Wn) (j:Nat) (hj:L[j]?=some v) (hne:∀i u,i<j->L[i]?=some u->u.n≠v.n) (x y ww hh:Int) (p:Pn) (hpl:Zt x y=true) (hrc:zef ww hh=true) (hpn:zdA p=true):
 Calls Tryz.prog 34 #[.pointer (some ⟨R.d,0,none⟩),.int .i64 v.n,.int .i64 x,.int .i64 y,.int .i64 ww,.int .i64 hh,p.agg] w (Zr R L (zY L v.n (λu=>{u with G:=zaY v.W x y ww hh p v.G v.H})) last w (.int .i64 0)):=by
 have hv:=List.mem_of_getElem? hj;have hb1:Below w.heap.size w (w.alloc (.cells #[.int .i64 p.f,.int .i64 p.b,.bool p.bo,.bool p.un,.bool p.re] 33)):=(Below.refl _ _).alloc (Nat.le_refl _) _;have HRa:=zH<|h.below hb1
 have P1:=ZO w p 33;have H:=zH<|zbq ok _ HRa.out v j hj hne
 obtain⟨p0,p1,p2,p3,p4⟩:=id P1;have hx:=zbH.1 hpl;have hr:=ziQ.1 hrc;have hr1:Wd.inB ww 0 1000=true:=by simp[Wd.inB];omega
 have hr2:Wd.inB hh 0 1000=true:=by simp[Wd.inB];omega
 have hjl:=(List.getElem?_eq_some_iff.1 hj).1;have hjl':(j:Int)<(L.length:Int):=by omega
 have hj1:¬(j:Int)<0:=by omega
 have lg:=h.lt (zfm R hv);have h1:=(h.win v hv).h1;have h2:=(h.win v hv).h2;have sx:IntKind.i64.wrap (x+ww)=x+ww:=zm _ (by omega) (by omega);have sy:IntKind.i64.wrap (y+hh)=y+hh:=zm _ (by omega) (by omega);have Hj:=zH hj;clear h hj hne;go_in;go_wp2_with (first|(go_at_call 79;refine sM H.out ?_)|(go_at_call 80;refine sM (zbk _ _ _) ?_)|(go_at_call 86;refine sM (Wd.refBetween _ _ _ _) ?_));go_at_call 81;refine(znn p _).mono ?_;rw[hpn];rintro e wb ⟨rfl,hbb⟩;have HRb:=zH<|HRa.out.below hbb
 have P2:=P1.same (hbb.block _ P1.lt);have K2:=zH<|hb1.trans (hbb.mono hb1.size)
 clear p0 p1 p2 p3 p4 P1 hbb HRa hb1 H;obtain⟨g,cap,hl,hw,hfz,_⟩:=HRb.out.sl ok.one;have d0:=HRb.out.d0;rw[hl] at d0;obtain⟨c0,c1,c2,c3,c4,c5⟩:=hw j v Hj.out;clear hw hl;go_wp2_with fail;go_loopw[21] (λi w'=>∃r:Nat,r<=v.H/\i=.int .i64 r/\Zp w' (R.c v.n) (R.g v.n) (R.cap v.n) v.W v.H (v.H*v.W) (zaY v.W x y ww hh p v.G r)/\zd (λi=>i=R.g v.n) wb w') (λi _=>30-(intOf i).toNat)
 case atStart=>exact⟨0,by omega,rfl,HRb.out.win v hv,zd.refl _ _⟩
 case round=>
  obtain⟨r,hr',rfl,hC,hK⟩:=hrel;have HC:=zH hC;have HK:=zH hK;have e1:=hC.c1;obtain⟨p0,p1,p2,p3,p4⟩:=P2.same (hK.block _ P2.lt (by omega));clear hC hK;by_cases hlt:r<v.H
  ·have hlt':(r:Int)<(v.H:Int):=by omega
   by_cases hin:y<=r/\(r:Int)<y+hh
   ·obtain⟨hi1,hi2⟩:=id hin;have He:Hid (zaY v.W x y ww hh p v.G (r+1)=zaH v.W x (x+ww) r p (zaY v.W x y ww hh p v.G r)):=if_pos hin;clear hin;go_wp2_with fail;go_at_call 87;refine(zkm _ _ _ _ _ _ _ x (x+ww) r p _ HC.out (zey (HRb.out.wf v hv) r) hlt).mono ?_;rintro e wc ⟨rfl,C2,K2'⟩;have HC2:Hid (Zp wc (R.c v.n) (R.g v.n) (R.cap v.n) v.W v.H (v.H*v.W) (zaY v.W x y ww hh p v.G (r+1))):=by
     show Zp _ _ _ _ _ _ _ _;rw[He.out];exact C2.congr (zof (zey (HRb.out.wf v hv) r) _ _ _ _).symm
    have HK2:=zH<|HK.out.trans K2' (λ_ _ h=>h)
    clear C2 K2' HC HK;go_wp2_with fail;go_roundw
    case rel=>exact⟨r+1,by omega,by simp,HC2.out,HK2.out⟩
    case measure=>simp[intOf];omega
   ·have He:Hid (zaY v.W x y ww hh p v.G (r+1)=zaY v.W x y ww hh p v.G r):=if_neg hin;have hcase:¬y<=(r:Int)\/(y<=(r:Int)/\¬(r:Int)<y+hh):=by omega
    clear hin;rcases hcase with hi1|⟨hi1,hi2⟩;all_goals
     go_wp2_with fail;go_roundw
     case rel=>exact⟨r+1,by omega,by simp,by rw[He.out];exact HC.out,HK.out⟩
     case measure=>simp[intOf];omega
  ·obtain rfl:r=v.H:=by omega
   have HP:Hid (Zr R L (zY L v.n (λu=>{u with G:=zaY v.W x y ww hh p v.G v.H})) last w (.int .i64 0) (.returned (.int .i64 0)) wr):=by
    obtain⟨R',e1,D1,t1,k1,o1⟩:=HRb.out.setG ok hv v.W v.H (R.g v.n) (R.cap v.n) _ (zey (HRb.out.wf v hv) v.H) HC.out (HK.out.mono (λi e=>.inr e)) (.inl rfl) (.int .i64 0);rw[zjN ok hv] at D1 o1;exact⟨R',e1,D1,t1,(zd.below _ K2.out).trans k1 (λ_ _ h=>h),λi hi=>(o1 i hi).imp id (λh=>by have:=K2.out.size;omega)⟩
   go_wp2_with fail;go_ret;exact HP.out
end
end
end Go.Proofs.YtjlfibhbfdckpaaGreatDoor
