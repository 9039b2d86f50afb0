import Derived.Test.YtjlfibhbfdckpaaGreatDoorV04
namespace Go.Proofs.YtjlfibhbfdckpaaGreatDoor
set_option maxHeartbeats 64000000
set_option maxRecDepth 100000
section
structure Wn where
 n:Int
 par:Int
 x:Int
 y:Int
 sh:Bool
 W:Nat
 H:Nat
 G:Nat->Nat->zk
def zy (L:List Wn) (n:Int):List Wn:=L.filter (λv=>decide (v.par=n))
theorem Ze {L:List Wn} {n:Int} {v:Wn}:v∈zy L n↔v∈L/\v.par=n:=by simp[zy]
inductive Sub (L : List Wn) (n : Int) : Int → Prop | refl : Sub L n n | step {v : Wn} : v ∈ L → Sub L n v.par → Sub L n v.n
structure ZR (L:List Wn) (rk:Int->Nat) (K:Nat):Prop where
 head:∃r T,L=r::T/\r.n=0/\r.par = -1/\∀v∈T,1<=v.n/\0<=v.par
 nd:(L.map Wn.n).Nodup
 up:∀v∈L,0<=v.par->(∃u∈L,u.n=v.par)/\rk v.par<rk v.n
 le:∀v∈L,rk v.n<=K
theorem zak {L:List Wn} (h:(L.map Wn.n).Nodup):∀ {u v:Wn},u∈L->v∈L->u.n=v.n->u=v:=by
 induction L with
 |nil=>intro u v hu;simp at hu
 |cons a t ih=>
  intro u v hu hv e;rw[List.map_cons,List.nodup_cons] at h;rcases List.mem_cons.1 hu with rfl|hu'
  ·rcases List.mem_cons.1 hv with rfl|hv'
   ·rfl
   ·exact absurd (List.mem_map.2 ⟨v,hv',e.symm⟩) h.1
  ·rcases List.mem_cons.1 hv with rfl|hv'
   ·exact absurd (List.mem_map.2 ⟨u,hu',e⟩) h.1
   ·exact ih h.2 hu' hv' e
theorem Sub.trans {L:List Wn} {a b c:Int} (h:Sub L a b) (k:Sub L b c):Sub L a c:=by
 induction k with
 |refl=>exact h
 |step hv _ ih=>exact .step hv ih
theorem Sub.kid {L:List Wn} {a b:Int} (h:Sub L a b):b=a\/∃u∈zy L a,Sub L u.n b:=by
 induction h with
 |refl=>exact .inl rfl
 |step hv _ ih=>
  rename_i v _;rcases ih with e|⟨u,hu,hs⟩
  ·exact .inr ⟨v,Ze.2 ⟨hv,e⟩,.refl⟩
  ·exact .inr ⟨u,hu,.step hv hs⟩
theorem Sub.last {L:List Wn} {a b:Int} (h:Sub L a b):b=a\/∃v∈L,v.n=b/\Sub L a v.par:=by
 cases h with
 |refl=>exact .inl rfl
 |step hv hs=>exact .inr ⟨_,hv,rfl,hs⟩
section
variable {L:List Wn} {rk:Int->Nat} {K:Nat}
theorem ZR.pos (h:ZR L rk K) {v:Wn} (hv:v∈L):0<=v.n:=by
 obtain⟨r,T,rfl,h0,_,hT⟩:=h.head;rcases List.mem_cons.1 hv with rfl|hv'
 ·omega
 ·have:=(hT v hv').1;omega
theorem ZR.parNot (h:ZR L rk K) {v:Wn} (hv:v∈L):v.par = -1\/0<=v.par:=by
 obtain⟨r,T,rfl,h0,h1,hT⟩:=h.head;rcases List.mem_cons.1 hv with rfl|hv'
 ·exact .inl h1
 ·exact .inr (hT v hv').2
theorem ZR.rootIn (h:ZR L rk K):∃v∈L,v.n=0/\v.par = -1:=by
 obtain⟨r,T,rfl,h0,h1,hT⟩:=h.head;exact⟨r,List.mem_cons_self,h0,h1⟩
theorem ZR.zero (h:ZR L rk K) {v:Wn} (hv:v∈L):v.n=0↔v.par = -1:=by
 obtain⟨r,T,rfl,h0,h1,hT⟩:=h.head;rcases List.mem_cons.1 hv with rfl|hv'
 ·simp[h0,h1]
 ·have:=hT v hv';omega
theorem Sub.rank (h:ZR L rk K) {a b:Int} (ha:0<=a) (hs:Sub L a b):rk a<=rk b/\0<=b:=by
 induction hs with
 |refl=>exact⟨Nat.le_refl _,ha⟩
 |step hv _ ih=>exact⟨by have:=(h.up _ hv ih.2).2;omega,h.pos hv⟩
theorem ZR.all (h:ZR L rk K):∀(k:Nat) (v:Wn),v∈L->rk v.n<=k->Sub L 0 v.n:=by
 intro k;induction k with
 |zero=>
  intro v hv hk;rcases h.parNot hv with e|e
  ·rw[(h.zero hv).2 e];exact .refl
  ·have:=(h.up v hv e).2;omega
 |succ k ih=>
  intro v hv hk;rcases h.parNot hv with e|e
  ·rw[(h.zero hv).2 e];exact .refl
  ·obtain⟨⟨u,hu,hun⟩,hr⟩:=h.up v hv e;refine .step hv ?_;rw[←hun];exact ih u hu (by rw[hun];omega)
def zjz (L:List Wn):Nat->Int->Int->Bool
 |0,v,m=>decide (v=m)
 |f+1,v,m=>decide (v=m)||(zy L v).any (λu=>zjz L f u.n m)
theorem ZR.noKids (h:ZR L rk K) {a:Int} (ha:0<=a) (hk:K<=rk a):zy L a=[]:=by
 refine List.eq_nil_iff_forall_not_mem.2 (λu hu=>?_);obtain⟨hL,hp⟩:=Ze.1 hu;have:=(h.up u hL (by omega)).2;have:=h.le u hL;rw[hp] at *;omega
theorem ZR.has (h:ZR L rk K) (m:Int):∀(f:Nat) (a:Int),0<=a->K<=rk a+f->(zjz L f a m=true↔Sub L a m):=by
 intro f;induction f with
 |zero=>
  intro a ha hk;have hn:=h.noKids ha (by omega);simp only[zjz,decide_eq_true_eq];refine⟨λe=>e ▸ .refl,λhs=>?_⟩;rcases hs.kid with e|⟨u,hu,_⟩
  ·exact e.symm
  ·rw[hn] at hu;simp at hu
 |succ f ih=>
  intro a ha hk;simp only[zjz,Bool.or_eq_true,decide_eq_true_eq,List.any_eq_true];constructor
  ·rintro(e|⟨u,hu,hs⟩)
   ·exact e ▸ .refl
   ·obtain⟨hL,hp⟩:=Ze.1 hu;have hr:=(h.up u hL (by omega)).2;rw[hp] at hr;refine Sub.trans (.step hL ?_) ((ih u.n (h.pos hL) (by omega)).1 hs);rw[hp];exact .refl
  ·intro hs;rcases hs.kid with e|⟨u,hu,hs'⟩
   ·exact .inl e.symm
   ·obtain⟨hL,hp⟩:=Ze.1 hu;have hr:=(h.up u hL (by omega)).2;rw[hp] at hr;exact .inr ⟨u,hu,(ih u.n (h.pos hL) (by omega)).2 hs'⟩
theorem ZR.hasRoot (h:ZR L rk K) (m:Int):zjz L K 0 m=true↔∃v∈L,v.n=m:=by
 rw[h.has m K 0 (by omega) (by omega)];constructor
 ·intro hs;rcases hs.last with e|⟨v,hv,e,_⟩
  ·obtain⟨r,hr,h0,_⟩:=h.rootIn;exact⟨r,hr,by omega⟩
  ·exact⟨v,hv,e⟩
 ·rintro⟨v,hv,rfl⟩;exact h.all K v hv (h.le v hv)
def zkp (L:List Wn):Nat->Int->Nat
 |0,_=>1
 |f+1,v=>1+((zy L v).map (λu=>zkp L f u.n)).sum
theorem Sub.chain (h:ZR L rk K) {a b c:Int} (hs:Sub L a c) (ht:Sub L b c):Sub L a b\/Sub L b a:=by
 induction hs with
 |refl=>exact .inr ht
 |step hv hs' ih=>
  rename_i v;rcases ht.last with e|⟨u,hu,e,hs2⟩
  ·rw[←e];exact .inl (.step hv hs')
  ·obtain rfl:=zak h.nd hu hv e;exact ih hs2
theorem zpD {α β:Type} (l:List α) (m:List β) (f:α->β->Nat):(l.map (λa=>(m.map (f a)).sum)).sum=(m.map (λb=>(l.map (λa=>f a b)).sum)).sum:=by
 induction l with
 |nil=>induction m with
  |nil=>rfl
  |cons b s ih=>simpa using ih
 |cons a t ih=>
  simp only[List.map_cons,List.sum_cons,ih];clear ih;induction m with
  |nil=>simp
  |cons b s ih2=>simp only[List.map_cons,List.sum_cons];omega
theorem zjA {l:List Wn} (hn:(l.map Wn.n).Nodup) {p:Wn->Prop} [DecidablePred p] {u:Wn} (hu:u∈l) (hp:p u) (h1:∀v∈l,p v->v.n=u.n):(l.map (λv=>if p v then 1 else 0)).sum=1:=by
 induction l with
 |nil=>simp at hu
 |cons a t ih=>
  rw[List.map_cons,List.nodup_cons] at hn;simp only[List.map_cons,List.sum_cons];by_cases ha:p a
  ·have e:=h1 a List.mem_cons_self ha;have hz:(t.map (λv=>if p v then 1 else 0)).sum=0:=by
    have:∀v∈t,(if p v then 1 else 0)=(λ_=>0) v:=by
     intro v hv;rw[if_neg];intro hpv;have:=h1 v (List.mem_cons_of_mem _ hv) hpv;exact hn.1 (List.mem_map.2 ⟨v,hv,by omega⟩)
    rw[List.map_congr_left this];clear this ih hn h1 hu;induction t with
    |nil=>rfl
    |cons _ _ ih=>simpa using ih
   rw[if_pos ha,hz]
  ·rw[if_neg ha];rcases List.mem_cons.1 hu with rfl|hu'
   ·exact absurd hp ha
   ·rw[ih hn.2 hu' (λv hv=>h1 v (List.mem_cons_of_mem _ hv)),Nat.zero_add]
theorem zkq {α:Type} (l:List α) (f:α->Nat) (h:∀a∈l,f a=0):(l.map f).sum=0:=by
 induction l with
 |nil=>rfl
 |cons a t ih=>rw[List.map_cons,List.sum_cons,h a List.mem_cons_self,ih (λb hb=>h b (List.mem_cons_of_mem _ hb))]
theorem zpE {α:Type} (l:List α):(l.map (λ_=>1)).sum=l.length:=by
 induction l with
 |nil=>rfl
 |cons a t ih=>rw[List.map_cons,List.sum_cons,List.length_cons,ih];omega
theorem zlT {α:Type} (l:List α) (f:α->Nat) (h:∀a,f a<=1):(l.map f).sum<=l.length:=by
 induction l with
 |nil=>exact Nat.le_refl _
 |cons a t ih=>rw[List.map_cons,List.sum_cons,List.length_cons];have:=h a;omega
theorem zrS {α:Type} (l:List α) (f g:α->Nat):(l.map (λa=>f a+g a)).sum=(l.map f).sum+(l.map g).sum:=by
 induction l with
 |nil=>rfl
 |cons a t ih=>simp only[List.map_cons,List.sum_cons,ih];omega
theorem zna (h:(L.map Wn.n).Nodup) (a:Int):((zy L a).map Wn.n).Nodup:=List.Nodup.sublist (List.Sublist.map _ List.filter_sublist) h
open Classical in
theorem ZR.part (h:ZR L rk K) {a:Int} (ha:0<=a) (u:Wn):(if Sub L a u.n then 1 else 0)=(if u.n=a then 1 else 0)+((zy L a).map (λk=>if Sub L k.n u.n then 1 else 0)).sum:=by
 have hk:∀k∈zy L a,¬Sub L k.n a:=by
  intro k hk hs;obtain⟨hL,hp⟩:=Ze.1 hk;have h1:=(h.up k hL (by omega)).2;have h2:=(Sub.rank h (h.pos hL) hs).1;rw[hp] at h1;omega
 by_cases e:u.n=a
 ·rw[if_pos e,if_pos (e ▸ .refl),zkq];intro k hkk;rw[if_neg];rw[e];exact hk k hkk
 ·rw[if_neg e];by_cases hs:Sub L a u.n
  ·rw[if_pos hs];rcases hs.kid with e'|⟨k,hkk,hs'⟩
   ·exact absurd e' e
   ·rw[zjA (p:=λk=>Sub L k.n u.n) (zna h.nd a) hkk hs'];intro v hv hsv;have hvk:∀ {c d:Wn},c∈zy L a->d∈zy L a->Sub L c.n d.n->d.n=c.n:=by
     intro c d hc hd hcd;rcases hcd.last with e2|⟨x,hx,e2,hs2⟩
     ·exact e2
     ·obtain rfl:=zak h.nd hx (Ze.1 hd).1 e2;rw[(Ze.1 hd).2] at hs2;exact absurd hs2 (hk c hc)
    rcases Sub.chain h hsv hs' with h3|h3
    ·exact(hvk hv hkk h3).symm
    ·exact hvk hkk hv h3
  ·rw[if_neg hs,zkq];intro k hkk;rw[if_neg];intro hs';obtain⟨hL,hp⟩:=Ze.1 hkk;refine hs (Sub.trans (.step hL ?_) hs');rw[hp];exact .refl
open Classical in
theorem ZR.cnt (h:ZR L rk K):∀(f:Nat) (v:Wn),v∈L->K<=rk v.n+f->zkp L f v.n=(L.map (λu=>if Sub L v.n u.n then 1 else 0)).sum:=by
 intro f;induction f with
 |zero=>
  intro v hv hk;have hn:=h.noKids (h.pos hv) (by omega);have e:∀u∈L,(if Sub L v.n u.n then 1 else 0)=(if u.n=v.n then 1 else 0):=by
   intro u _;rw[h.part (h.pos hv) u,hn];simp
  rw[List.map_congr_left e,zjA (p:=λu=>u.n=v.n) h.nd hv rfl (λ_ _ e=>e)];rfl
 |succ f ih=>
  intro v hv hk;have e:∀u∈L,(if Sub L v.n u.n then 1 else 0)=(if u.n=v.n then 1 else 0)+((zy L v.n).map (λk=>if Sub L k.n u.n then 1 else 0)).sum:=λu _=>h.part (h.pos hv) u;rw[List.map_congr_left e,zrS,zjA (p:=λu=>u.n=v.n) h.nd hv rfl (λ_ _ e=>e),zpD];show 1+_=1+_;refine congrArg (1 + ·) ?_;refine congrArg List.sum (List.map_congr_left λk hkk=>?_);obtain⟨hL,hp⟩:=Ze.1 hkk;have:=(h.up k hL (by have:=h.pos hv;omega)).2;rw[hp] at this;exact ih k hL (by omega)
theorem ZR.cntLe (h:ZR L rk K) (f:Nat) (v:Wn) (hv:v∈L) (hk:K<=rk v.n+f):zkp L f v.n<=L.length:=by
 classical
 rw[h.cnt f v hv hk];exact zlT L _ (λa=>by split<;>omega)
theorem ZR.count (h:ZR L rk K):zkp L K 0=L.length:=by
 classical
 obtain⟨r,hr,h0,_⟩:=h.rootIn;have:=h.cnt K r hr (by omega);rw[h0] at this;rw[this];have e:∀u∈L,(if Sub L 0 u.n then 1 else 0)=(λ_=>1) u:=λu hu=>if_pos (h.all K u hu (h.le u hu));rw[List.map_congr_left e];exact zpE L
end
def hit (x y:Int) (u:Wn):Bool:=u.sh&&inG u.W u.H (x-u.x) (y-u.y)
def zcw (L:List Wn) (n:Int) (x y:Int):Option Wn:=(zy L n).reverse.find? (hit x y)
def zaf (L:List Wn):Nat->Wn->Int->Int->Wn × Int × Int
 |0,v,x,y=>(v,x,y)
 |f+1,v,x,y=>match zcw L v.n x y with
  |none=>(v,x,y)
  |some u=>zaf L f u (x-u.x) (y-u.y)
theorem zcX {L:List Wn} {n x y:Int} {u:Wn} (h:zcw L n x y=some u):u∈L/\u.par=n/\u.sh=true/\inG u.W u.H (x-u.x) (y-u.y)=true:=by
 have h1:=List.find?_some h;have h2:=List.mem_of_find?_eq_some h;obtain⟨a,b⟩:=Ze.1 (List.mem_reverse.1 h2);simp only[hit,Bool.and_eq_true] at h1;exact⟨a,b,h1.1,h1.2⟩
theorem ZR.nextNone {L:List Wn} {rk:Int->Nat} {K:Nat} (T:ZR L rk K) {v:Wn} (hv:v∈L) (hk:K<=rk v.n) (x y:Int):zcw L v.n x y=none:=by
 unfold zcw;rw[T.noKids (T.pos hv) hk];rfl
theorem ZR.ownSucc {L:List Wn} {rk:Int->Nat} {K:Nat} (T:ZR L rk K) {v:Wn} (hv:v∈L) {f:Nat} (hk:K<=rk v.n+f) (x y:Int):zaf L f v x y=match zcw L v.n x y with
 |none=>(v,x,y)
 |some u=>zaf L (f-1) u (x-u.x) (y-u.y):=by
 cases f with
 |zero=>rw[T.nextNone hv (by omega)];rfl
 |succ f=>rfl
def za6 (L:List Wn) (K:Nat) (r o:Wn) (c:zk) (x y:Int):zk:=if inG r.W r.H x y=true/\(zaf L K r x y).1.n=o.n then c else blk c.n
def zcx (L:List Wn) (K:Nat) (r:Wn) (x y:Int):zk:=
 let o:=zaf L K r x y;let c:=o.1.G o.2.1.toNat o.2.2.toNat
 if c.p=1 then za6 L K r o.1 c (x+1) y else if c.p=2 then za6 L K r o.1 c (x-1) y else c
theorem ZR.ownIn {L:List Wn} {rk:Int->Nat} {K:Nat} (T:ZR L rk K):∀(f:Nat) (v:Wn) (x y:Int),v∈L->K<=rk v.n+f->inG v.W v.H x y=true->(zaf L f v x y).1∈L/\inG (zaf L f v x y).1.W (zaf L f v x y).1.H (zaf L f v x y).2.1 (zaf L f v x y).2.2=true:=by
 intro f;induction f with
 |zero=>intro v x y hv _ hi;exact⟨hv,hi⟩
 |succ f ih=>
  intro v x y hv hk hi;rw[T.ownSucc hv hk];cases hn:zcw L v.n x y with
  |none=>exact⟨hv,hi⟩
  |some u=>
   obtain⟨hu,hp,_,hui⟩:=zcX hn;have:=(T.up u hu (by have:=T.pos hv;omega)).2;rw[hp] at this;exact ih u _ _ hu (by omega) hui
end
section
open Go.RowKit
def ZU (a b:Int):Int:=if b<a then b else a
def zK (a b:Int):Int:=if a<b then b else a
def zcU (n lo hi:Int):Int:=zK lo (ZU n hi)
theorem zce (a b:Int) (w:World):
 Calls Tryz.prog 138 #[.int .i64 a,.int .i64 b] w λe w'=>e=.returned (.int .i64 (ZU a b))/\w'=w:=by
 by_cases h:b<a
 ·rw[show ZU a b=b from if_pos h];go_in;go_wp2;go_ret;exact⟨rfl,rfl⟩
 ·rw[show ZU a b=a from if_neg h];go_in;go_wp2;go_ret;exact⟨rfl,rfl⟩
theorem zcf (a b:Int) (w:World):
 Calls Tryz.prog 139 #[.int .i64 a,.int .i64 b] w λe w'=>e=.returned (.int .i64 (zK a b))/\w'=w:=by
 by_cases h:a<b
 ·rw[show zK a b=b from if_pos h];go_in;go_wp2;go_ret;exact⟨rfl,rfl⟩
 ·rw[show zK a b=a from if_neg h];go_in;go_wp2;go_ret;exact⟨rfl,rfl⟩
theorem zho (n lo hi:Int) (w:World):
 Calls Tryz.prog 156 #[.int .i64 n,.int .i64 lo,.int .i64 hi] w λe w'=>e=.returned (.int .i64 (zcU n lo hi))/\w'=w:=by
 go_in;go_wp2_with (first|(go_at_call 138;refine(zce _ _ _).mono ?_;rintro e w' ⟨rfl,rfl⟩)|(go_at_call 139;refine(zcf _ _ _).mono ?_;rintro e w' ⟨rfl,rfl⟩));go_ret;exact⟨rfl,rfl⟩
theorem zan (n a b:Int) (w:World):
 Calls Tryz.prog 107 #[.int .i64 n,.int .i64 a,.int .i64 b] w λe w'=>e=.returned (.bool (Wd.inB n a b))/\w'=w:=by
 by_cases h1:a<=n<;>by_cases h2:n<=b;all_goals
  go_in;go_wp2;go_ret;exact⟨by simp[Wd.inB,h1,h2],rfl⟩
theorem zbL (n a b:Int) (w:World):
 Calls Tryz.prog 181 #[.int .u8 n,.int .u8 a,.int .u8 b] w λe w'=>e=.returned (.bool (Wd.inB n a b))/\w'=w:=by
 by_cases h1:a<=n<;>by_cases h2:n<=b;all_goals
  go_in;go_wp2;go_ret;exact⟨by simp[Wd.inB,h1,h2],rfl⟩
end
section
open Go.RowKit
attribute [local go_sem ↓] Go.wp_at_zero Go.wp_at_succ
structure zay (w:World) (g n:Nat) (L:Nat->zk):Prop where
 cel:∀i,i<n->zv w g (i*7) (L i)
 free:∀o,w.frozen? ⟨g,o,none⟩=false
def zgU (L:Nat->zk) (i:Nat) (c:zk):Nat->zk:=λj=>if j=i then c else L j
theorem zay.same {w w':World} {g n:Nat} {L:Nat->zk} (h:zay w g n L) (hb:w'.heap[g]?=w.heap[g]?):zay w' g n L:=
 ⟨λi hi=>(h.cel i hi).same hb,λo=>by rw[za4 hb];exact h.free o⟩
theorem zay.congr {w:World} {g n:Nat} {L M:Nat->zk} (h:zay w g n L) (e:∀i,i<n->L i=M i):zay w g n M:=
 ⟨λi hi=>by rw[←e i hi];exact h.cel i hi,h.free⟩
theorem zay.put {w:World} {g n:Nat} {L:Nat->zk} (h:zay w g n L) {i:Nat} (hi:i<n) (c:zk):zay (put7 w g (i*7) c) g n (zgU L i c):=by
 refine⟨λj hj=>?_,λo=>?_⟩
 ·unfold zgU;by_cases e:j=i
  ·subst e;rw[if_pos rfl];exact zai (h.cel _ hj)
  ·rw[if_neg e];have:=h.cel j hj;simp only[zv] at this ⊢;rw[zaL (by omega),zaL (by omega),zaL (by omega),zaL (by omega),zaL (by omega),zaL (by omega),zaL (by omega)];exact this
 ·unfold put7;simp only[zdS];exact h.free o
theorem zay.lt {w:World} {g n:Nat} {L:Nat->zk} (h:zay w g n L) (hn:0<n):g<w.heap.size:=(h.cel 0 hn).lt
def ze7 (L:Nat->zk) (a k:Nat) (p:Pn):Nat->zk:=λi=>if a<=i/\i<a+k then blk p else L i
theorem zes (n:Pn) (w:World):
 Calls Tryz.prog 147 #[n.agg] w λe w'=>e=.returned (blk n).agg/\Below w.heap.size w w':=by
 go_in;go_wp2;exact bodyPost_ret (v:=(blk n).agg) (by simp[results,Tryz.results147,go_sem,blk]) rfl ⟨rfl,((Below.refl _ _).alloc (Nat.le_refl _) _).alloc (by simp) _⟩
theorem zhp (g n a k cap:Nat) (av:Option Addr) (L:Nat->zk) (p:Pn) (w:World) (h:zay w g n L) (hav:0<k->av=some ⟨g,a*7,none⟩) (hk:a+k<=n) (hn:n<=800) (hn0:0<n):
 Calls Tryz.prog 148 #[.slice av k cap,p.agg] w λe w'=>e=.returned (.tuple #[])/\zay w' g n (ze7 L a k p)/\zd (λi=>i=g) w w':=by
 have HF:=zH h;have gb:=h.lt hn0;have Hav:=zH hav;clear h hav;go_in;go_wp2_with fail;have hb0:Below w.heap.size w (w.alloc (.cells #[.int .i64 p.f,.int .i64 p.b,.bool p.bo,.bool p.un,.bool p.re] 33)):=(Below.refl _ _).alloc (Nat.le_refl _) _;go_loopw[7] (λi w'=>∃j:Nat,j<=k/\i=.int .i64 j/\zay w' g n (ze7 L a j p)/\zd (λi=>i=g) w w'/\Zf w' w.heap.size 0 p) (λi _=>k-(intOf i).toNat)
 case atStart=>exact⟨0,by omega,rfl,(HF.out.same (hb0.block _ gb)).congr (λi _=>by unfold ze7;rw[if_neg (by omega)]),zd.below _ hb0,ZO _ _ _⟩
 case round=>
  obtain⟨j,hj,rfl,hF,hK,hP⟩:=hrel;have HF1:=zH hF;by_cases hlt:j<k
  ·have hav:=Hav.out (by omega);subst hav;obtain⟨p0,p1,p2,p3,p4⟩:=hP;have hlt':(j:Int)<(k:Int):=by omega
   have Hoff:Hid ((a+j)*7=a*7+j*7):=by show(a+j)*7=a*7+j*7;omega
   clear hF HF;obtain⟨ao,hao⟩:∃ao,a*7=ao:=⟨_,rfl⟩;rw[hao];rw[hao] at Hoff;go_wp2_with fail;go_at_call 147;refine(zes p _).mono ?_;rintro e w3 ⟨rfl,hb3⟩;have F3:=HF1.out.same (hb3.block _ (HF1.out.lt hn0));have P3:=Zf.same ⟨p0,p1,p2,p3,p4⟩ (hb3.block _ (Zf.lt ⟨p0,p1,p2,p3,p4⟩));have K3:=hK.thenBelow hb3;have tg:=F3.cel (a+j) (by omega);rw[Hoff.out] at tg;obtain⟨t0,t1,t2,t3,t4,t5,t6⟩:=tg;have fr:=F3.free;have HF3:=zH F3;clear F3 hb3 p0 p1 p2 p3 p4 HF1 hK;go_wp2_with fail;have R:=HF3.out.put (i:=a+j) (by omega) (blk p);rw[Hoff.out] at R;have P4:=P3.same (zW w3 g (ao+j*7) w.heap.size (blk p) (by omega));have K4:=K3.put7 g (ao+j*7) (blk p) (λ_=>rfl);generalize hW:put7 w3 g (ao+j*7) (blk p)=w4 at *;unfold put7 at hW;rw[hW];refine⟨⟨j+1,by omega,by simp,R.congr (λi _=>?_),K4,P4⟩,by simp only[intOf];omega⟩;unfold zgU ze7;by_cases e1:i=a+j
   ·subst e1;rw[if_pos rfl,if_pos (by omega)]
   ·rw[if_neg e1];by_cases e2:a<=i/\i<a+j
    ·rw[if_pos e2,if_pos (by omega)]
    ·rw[if_neg e2,if_neg (by omega)]
  ·have hjk:j=k:=by omega
   subst hjk;go_wp2_with fail;go_end0;exact⟨rfl,hF,hK⟩
def zfj (L:Nat->zk) (a k c:Nat):Nat->zk:=
 if 1<=c/\c+1<=k/\(L (a+c)).p=2 then zgU (zgU L (a+c-1) (blk (L (a+c-1)).n)) (a+c) (blk (L (a+c)).n) else L
theorem zvr (g n a k cap c:Nat) (L:Nat->zk) (w:World) (h:zay w g n L) (hk:a+k<=n) (hc:c<=k) (hn:n<=800) (hk0:0<k):
 Calls Tryz.prog 174 #[.slice (some ⟨g,a*7,none⟩) k cap,.int .i64 c] w λe w'=>e=.returned (.tuple #[])/\zay w' g n (zfj L a k c)/\zd (λi=>i=g) w w':=by
 have HF:=zH h;have HK:Hid (zd (λi=>i=g) w w):=zd.refl _ _;clear h;by_cases h1:Wd.inB c 1 (k-1)=true
 ·have h1':=h1;simp[Wd.inB] at h1';obtain⟨l1,l2⟩:=h1';obtain⟨d,rfl⟩:∃d,c=d+1:=⟨c-1,by omega⟩;have c1:=HF.out.cel (a+d) (by omega);have c2:=HF.out.cel (a+(d+1)) (by omega);have fr:=HF.out.free;obtain⟨ao,hao⟩:∃ao,a*7=ao:=⟨_,rfl⟩;rw[show(a+d)*7=ao+d*7 by omega] at c1;rw[show(a+(d+1))*7=ao+(d+1)*7 by omega] at c2;rw[hao];obtain⟨x0,x1,x2,x3,x4,x5,x6⟩:=c1;obtain⟨y0,y1,y2,y3,y4,y5,y6⟩:=c2;have Hao:=zH hao;clear hao;have hlt:((d:Int)+1)<k:=by omega
  by_cases h2:(L (a+(d+1))).p=2
  ·rw[h2] at y1;go_in;go_wp2_with fail;go_at_call 107;refine sM (zan _ _ _ _) ?_;go_wp2_with fail;go_at_call 147;refine(zes (L (a+d)).n _).mono ?_;rintro e w3 ⟨rfl,hb3⟩;have gb:=HF.out.lt (by omega);have F3:=HF.out.same (hb3.block _ gb);have K3:=HK.out.thenBelow hb3;clear x0 x1 x2 x3 x4 x5 x6 y0 y1 y2 y3 y4 y5 y6 fr HF HK;have c1:=F3.cel (a+d) (by omega);have c2:=F3.cel (a+(d+1)) (by omega);have fr:=F3.free;rw[show(a+d)*7=ao+d*7 by have:=Hao.out;omega] at c1;rw[show(a+(d+1))*7=ao+(d+1)*7 by have:=Hao.out;omega] at c2;obtain⟨x0,x1,x2,x3,x4,x5,x6⟩:=c1;obtain⟨y0,y1,y2,y3,y4,y5,y6⟩:=c2;have HF3:=zH F3;clear F3 hb3;go_wp2_with fail;have R:=HF3.out.put (i:=a+d) (by omega) (blk (L (a+d)).n);rw[show(a+d)*7=ao+d*7 by have:=Hao.out;omega] at R;have K4:=K3.put7 g (ao+d*7) (blk (L (a+d)).n) (λ_=>rfl);generalize hW:put7 w3 g (ao+d*7) (blk (L (a+d)).n)=w4 at *;unfold put7 at hW;rw[hW];clear hW x0 x1 x2 x3 x4 x5 x6 y0 y1 y2 y3 y4 y5 y6 fr HF3 K3;go_at_call 147;refine(zes (L (a+(d+1))).n _).mono ?_;rintro e w5 ⟨rfl,hb5⟩;have F5:zay w5 g n _:=R.same (hb5.block _ (R.lt (by omega)));have K5:=K4.thenBelow hb5;have c2:=F5.cel (a+(d+1)) (by omega);have fr:=F5.free;rw[show(a+(d+1))*7=ao+(d+1)*7 by have:=Hao.out;omega] at c2;obtain⟨y0,y1,y2,y3,y4,y5,y6⟩:=c2;have HF5:=zH F5;clear F5 hb5 R K4;go_wp2_with fail;have R:=HF5.out.put (i:=a+(d+1)) (by omega) (blk (L (a+(d+1))).n);rw[show(a+(d+1))*7=ao+(d+1)*7 by have:=Hao.out;omega] at R;have K6:=K5.put7 g (ao+(d+1)*7) (blk (L (a+(d+1))).n) (λ_=>rfl);generalize hW:put7 w5 g (ao+(d+1)*7) (blk (L (a+(d+1))).n)=w6 at *;unfold put7 at hW;rw[hW];go_end0;refine⟨rfl,?_,K6⟩;unfold zfj;rw[if_pos ⟨by omega,by omega,h2⟩,show a+(d+1)-1=a+d by omega];exact R
  ·have h2':=h2;go_in;go_wp2_with fail;go_at_call 107;refine sM (zan _ _ _ _) ?_;go_wp2_with fail;refine bodyPost_ret (v:=.tuple #[]) (by simp[results,Tryz.results174,go_sem]) rfl ⟨rfl,?_,HK.out⟩;unfold zfj;rw[if_neg (λh=>h2 h.2.2)];exact HF.out
 ·go_in;go_wp2_with fail;go_at_call 107;refine sM (zan _ _ _ _) ?_;rw[show Wd.inB (c:Int) 1 (k-1)=false by simpa using h1];go_wp2_with fail;refine bodyPost_ret (v:=.tuple #[]) (by simp[results,Tryz.results174,go_sem]) rfl ⟨rfl,?_,HK.out⟩;unfold zfj;rw[if_neg (λh=>h1 (by simp[Wd.inB];omega))];exact HF.out
def lin (W:Nat) (G:Nat->Nat->zk):Nat->zk:=λi=>G (i%W) (i/W)
def zec (W:Nat) (L:Nat->zk):Nat->Nat->zk:=λx y=>L (y*W+x)
theorem zbo {W:Nat} (G:Nat->Nat->zk) {x:Nat} (y:Nat) (hx:x<W):lin W G (y*W+x)=G x y:=by
 unfold lin;have a:(y*W+x)%W=x:=by rw[Nat.mul_comm,Nat.mul_add_mod,Nat.mod_eq_of_lt hx]
 have b:(y*W+x)/W=y:=by rw[Nat.mul_comm,Nat.mul_add_div (by omega),Nat.div_eq_of_lt hx];rfl
 rw[a,b]
theorem zhf.flat {w:World} {g W H:Nat} {G:Nat->Nat->zk} (h:zhf w g W H G) (hW:0<W):zay w g (H*W) (lin W G):=by
 refine⟨λi hi=>?_,h.free⟩;have a:=h.cel (i%W) (i/W) (Nat.mod_lt _ hW) ((Nat.div_lt_iff_lt_mul hW).2 hi);rw[Nat.mul_comm (i/W),Nat.div_add_mod] at a;exact a
theorem zay.grid {w:World} {g W H:Nat} {L:Nat->zk} (h:zay w g (H*W) L):zhf w g W H (zec W L):=
 ⟨λ_ _ hx hy=>h.cel _ (zas hx hy),h.free⟩
structure Zi (w:World) (bg g W H N:Nat) (G:Nat->Nat->zk):Prop where
 blk:∃cp,N<=cp/\w.heap[bg]?=some (.cells #[.int .i64 W,.int .i64 H,.slice (some ⟨g,0,none⟩) N cp] 166)
 grid:zhf w g W H G
 hN:N=H*W
 ne:bg≠g
 w1:1<=W
 w2:W<=40
 h1:1<=H
 h2:H<=20
theorem Zi.nle {w:World} {bg g W H N:Nat} {G:Nat->Nat->zk} (h:Zi w bg g W H N G):N<=800:=by
 rw[h.hN];exact Nat.mul_le_mul h.h2 h.w2
theorem Zi.lt {w:World} {bg g W H N:Nat} {G:Nat->Nat->zk} (h:Zi w bg g W H N G):bg<w.heap.size:=by obtain⟨cp,_,e⟩:=h.blk;exact(Array.getElem?_eq_some_iff.1 e).1
theorem Zi.glt {w:World} {bg g W H N:Nat} {G:Nat->Nat->zk} (h:Zi w bg g W H N G):g<w.heap.size:=(h.grid.cel 0 0 h.w1 h.h1).lt
theorem Zi.same {w w':World} {bg g W H N:Nat} {G:Nat->Nat->zk} (h:Zi w bg g W H N G) (h1:w'.heap[bg]?=w.heap[bg]?) (h2:w'.heap[g]?=w.heap[g]?):Zi w' bg g W H N G:=
 ⟨by rw[h1];exact h.blk,h.grid.same h2,h.hN,h.ne,h.w1,h.w2,h.h1,h.h2⟩
theorem Zi.below {w w':World} {bg g W H N:Nat} {G:Nat->Nat->zk} (h:Zi w bg g W H N G) (hb:Below w.heap.size w w'):Zi w' bg g W H N G:=
 h.same (hb.block _ h.lt) (hb.block _ h.glt)
theorem Zi.c0 {w:World} {bg g W H N:Nat} {G:Nat->Nat->zk} (h:Zi w bg g W H N G):w.cell? ⟨bg,0,none⟩=some (.int .i64 W):=by obtain⟨cp,_,e⟩:=h.blk;rw[za e];rfl
theorem Zi.c1 {w:World} {bg g W H N:Nat} {G:Nat->Nat->zk} (h:Zi w bg g W H N G):w.cell? ⟨bg,1,none⟩=some (.int .i64 H):=by obtain⟨cp,_,e⟩:=h.blk;rw[za e];rfl
theorem Zi.c2 {w:World} {bg g W H N:Nat} {G:Nat->Nat->zk} (h:Zi w bg g W H N G):∃cp,N<=cp/\w.cell? ⟨bg,2,none⟩=some (.slice (some ⟨g,0,none⟩) N cp):=by obtain⟨cp,hc,e⟩:=h.blk;exact⟨cp,hc,by rw[za e];rfl⟩
theorem Zi.congr {w:World} {bg g W H N:Nat} {G K:Nat->Nat->zk} (h:Zi w bg g W H N G) (e:ZX W H G K):Zi w bg g W H N K:=
 ⟨h.blk,⟨λx y hx hy=>by rw[←e x y hx hy];exact h.grid.cel x y hx hy,h.grid.free⟩,h.hN,h.ne,h.w1,h.w2,h.h1,h.h2⟩
theorem Zi.with {w w':World} {bg g W H N:Nat} {G K:Nat->Nat->zk} {L:Nat->zk} (h:Zi w bg g W H N G) (f:zay w' g N L) (k:zd (λi=>i=g) w w') (e:ZX W H (zec W L) K):Zi w' bg g W H N K:=by
 have f':=f;rw[h.hN] at f';exact Zi.congr ⟨by rw[k.block _ h.lt h.ne];exact h.blk,f'.grid,h.hN,h.ne,h.w1,h.w2,h.h1,h.h2⟩ e
theorem Zi.flat {w:World} {bg g W H N:Nat} {G:Nat->Nat->zk} (h:Zi w bg g W H N G):zay w g N (lin W G):=by
 rw[h.hN];exact h.grid.flat h.w1
theorem Zc (w:World) (n:Nat):Below w.heap.size w (w.drewN n):=⟨rfl,rfl,rfl,Nat.le_refl _,λ_ _=>rfl⟩
theorem zcC (bg g W H N:Nat) (G:Nat->Nat->zk) (w:World) (h:Zi w bg g W H N G):
 Calls Tryz.prog 126 #[.pointer (some ⟨bg,0,none⟩)] w λe w'=>e=.returned (.int .i64 W)/\w'=w:=by
 have c:=h.c0;go_in;go_wp2;go_ret;exact⟨rfl,rfl⟩
theorem zbF (bg g W H N:Nat) (G:Nat->Nat->zk) (w:World) (h:Zi w bg g W H N G):
 Calls Tryz.prog 127 #[.pointer (some ⟨bg,0,none⟩)] w λe w'=>e=.returned (.int .i64 H)/\w'=w:=by
 have c:=h.c1;go_in;go_wp2;go_ret;exact⟨rfl,rfl⟩
theorem zlU (bg g W H N:Nat) (G:Nat->Nat->zk) (x y:Int) (w:World) (h:Zi w bg g W H N G):
 Calls Tryz.prog 103 #[.pointer (some ⟨bg,0,none⟩),.int .i64 x,.int .i64 y] w λe w'=>e=.returned (.bool (inG W H x y))/\w'=w:=by
 have c:=h.c0;have d:=h.c1;have a1:=h.w1;have a2:=h.w2;have a3:=h.h1;have a4:=h.h2;have hx:inG W H x y=(Wd.inB x 0 (W-1)&&Wd.inB y 0 (H-1)):=by
  rw[Bool.eq_iff_iff,zu];simp[Wd.inB];omega
 rw[hx];by_cases h1:Wd.inB x 0 (W-1)=true;all_goals
  go_in;go_wp2_with (first|(go_at_call 107;refine(zan _ _ _ _).mono ?_;rintro e w' ⟨rfl,rfl⟩));go_ret;exact⟨by simp[h1],rfl⟩
theorem ztr (bg g W H N:Nat) (G:Nat->Nat->zk) (y m r:Nat) (w:World) (h:Zi w bg g W H N G) (hy:y<H) (hm:y*W=m) (cp:Nat) (hc:N<=cp) (d:w.cell? ⟨bg,2,none⟩=some (.slice (some ⟨g,0,none⟩) N cp)) (hr:m+r=cp):
 Calls Tryz.prog 154 #[.pointer (some ⟨bg,0,none⟩),.int .i64 y] w λe w'=>e=.returned (.slice (some ⟨g,m*7,none⟩) W r)/\Below w.heap.size w w':=by
 have c:=h.c0;have a1:=h.w1;have a2:=h.w2;have a3:=h.h1;have a4:=h.h2;have nle:=h.nle;have hmy:(y:Int)*W=m:=by rw[←hm];simp
 have hmy':((y:Int)+1)*W=m+W:=by rw[Int.add_mul,hmy];omega
 have hmw:m+W<=N:=by rw[←hm,h.hN];have:=Nat.mul_le_mul_right W hy;rw[Nat.succ_mul] at this;exact this
 clear hm;go_in;go_wp2_with fail;go_quiet (fail);rw[show m+W-m=W by omega,show cp-m=r by omega];go_wp2_with fail;go_ret;exact⟨rfl,Zc _ _⟩
def zet (L:Nat->zk) (m W x0 x1:Nat):Nat->zk:=zfj (zfj L m W x0) m W x1
theorem znb (bg g W H N:Nat) (G:Nat->Nat->zk) (x0 x1 y m r:Nat) (w:World) (h:Zi w bg g W H N G) (hy:y<H) (hm:y*W=m) (cp:Nat) (hc:N<=cp) (d:w.cell? ⟨bg,2,none⟩=some (.slice (some ⟨g,0,none⟩) N cp)) (hr:m+r=cp) (hx:x0<x1) (hx1:x1<=W):
 Calls Tryz.prog 155 #[.pointer (some ⟨bg,0,none⟩),.int .i64 x0,.int .i64 x1,.int .i64 y] w λe w'=>e=.returned (.slice (some ⟨g,(m+x0)*7,none⟩) (x1-x0:Nat) (r-x0:Nat))/\zay w' g N (zet (lin W G) m W x0 x1)/\zd (λi=>i=g) w w':=by
 have nle:=h.nle;have hmw:m+W<=N:=by rw[←hm,h.hN];have:=Nat.mul_le_mul_right W hy;rw[Nat.succ_mul] at this;exact this
 have w1:=h.w1;have w2:=h.w2;have HG:=zH h;have Hm:=zH hm;have Hd:=zH d;clear h hm d;go_in;go_wp2_with fail;go_at_call 154;refine(ztr bg g W H N G y m r _ HG.out hy Hm.out cp hc Hd.out hr).mono ?_;rintro e w1 ⟨rfl,hb1⟩;have HF1:=zH<|HG.out.flat.same (hb1.block _ HG.out.glt)
 have K1:zd (λi=>i=g) w w1:=zd.below _ hb1;clear hb1;go_wp2_with fail;go_at_call 174;refine(zvr g N m W r x0 _ _ HF1.out hmw (by omega) nle (by omega)).mono ?_;rintro e w3 ⟨rfl,F3,k3⟩;have HF3:=zH F3;have K3:=K1.trans k3 (λ_ _ h=>h);clear F3 k3 HF1;go_wp2_with fail;go_at_call 174;refine(zvr g N m W r x1 _ _ HF3.out hmw (by omega) nle (by omega)).mono ?_;rintro e w4 ⟨rfl,F4,k4⟩;have HF4:Hid (zay w4 g N (zet (lin W G) m W x0 x1)):=F4;have K4:=K3.trans k4 (λ_ _ h=>h);clear F4 k4 HF3 K1 K3;go_wp2_with fail;rw[show m*7+x0*7=(m+x0)*7 by omega];go_ret;exact⟨rfl,HF4.out,K4⟩
theorem zts (bg g W H N:Nat) (G:Nat->Nat->zk) (x y:Nat) (w:World) (h:Zi w bg g W H N G) (hx:x<W) (hy:y<H):
 Calls Tryz.prog 146 #[.pointer (some ⟨bg,0,none⟩),.int .i64 x,.int .i64 y] w λe w'=>e=.returned (G x y).agg/\Below w.heap.size w w':=by
 have hl:y*W+x<N:=by rw[h.hN];exact zas (by omega) (by omega)
 have hlen:=h.nle;have h0:=h.c0;obtain⟨cp,hcp,h2⟩:=h.c2;have hc:=h.grid.cel x y (by omega) (by omega);obtain⟨i,hi⟩:∃i,y*W+x=i:=⟨_,rfl⟩;obtain⟨m,hm⟩:∃m,y*W=m:=⟨_,rfl⟩;rw[hi] at hl hc;rw[hm] at hi;generalize G x y=c at *;clear h;have hw1:IntKind.i64.wrap ((y:Int)*(W:Int))=(m:Int):=by rw[←Int.natCast_mul,hm];exact zm _ (by omega) (by omega)
 have hw2:IntKind.i64.wrap ((m:Int)+(x:Int))=(i:Int):=by rw[zm _ (by omega) (by omega)];omega
 have hi1:(0:Int)<=(i:Int):=by omega
 have hi2:(i:Int)<(N:Int):=by omega
 clear hm hi;obtain⟨c0,c1,c2,c3,c4,c5,c6⟩:=hc;have n1:=World.new_ne w _ h0;have n2:=World.new_ne w _ c0;go_in;go_wp2;go_region_held3 (λw'=>w'.cell? ⟨bg,0,none⟩=some (.int .i64 W)/\w'.cell? ⟨bg,2,none⟩=some (.slice (some ⟨g,0,none⟩) N cp)/\w'.cell? ⟨g,i*7,none⟩=some (.int .i32 c.r)/\w'.cell? ⟨g,i*7+1,none⟩=some (.int .i64 c.p)/\w'.cell? ⟨g,i*7+2,none⟩=some (.int .i64 c.n.f)/\w'.cell? ⟨g,i*7+3,none⟩=some (.int .i64 c.n.b)/\w'.cell? ⟨g,i*7+4,none⟩=some (.bool c.n.bo)/\w'.cell? ⟨g,i*7+5,none⟩=some (.bool c.n.un)/\w'.cell? ⟨g,i*7+6,none⟩=some (.bool c.n.re)) (go_keep) (fail);go_wp2;exact bodyPost_ret (v:=c.agg) (by simp[results,Tryz.results146,go_sem]) rfl ⟨rfl,((Below.refl _ _).alloc (Nat.le_refl _) _).drew⟩
end
section
def zg5 (x0 x1 y:Nat):Nat->Nat->Bool:=λa b=>decide (b=y)&&decide (x0<=a)&&decide (a<x1)
theorem Zv {x0 x1 y a b:Nat}:zg5 x0 x1 y a b=true↔b=y/\x0<=a/\a<x1:=by simp[zg5,and_assoc]
theorem zcv {L:Nat->zk} {m W c i:Nat} (h:i≠m+c) (h2:i+1≠m+c):zfj L m W c i=L i:=by
 unfold zfj;split
 ·unfold zgU;rw[if_neg (by omega),if_neg (by omega)]
 ·rfl
theorem zrT {L:Nat->zk} {m W c:Nat} (h:1<=c) (h2:c<W):zfj L m W c (m+c)=if (L (m+c)).p=2 then blk (L (m+c)).n else L (m+c):=by
 unfold zfj;by_cases e:(L (m+c)).p=2
 ·rw[if_pos ⟨h,by omega,e⟩,if_pos e];unfold zgU;rw[if_pos rfl]
 ·rw[if_neg (λx=>e x.2.2),if_neg e]
theorem ziF {L:Nat->zk} {m W c:Nat} (h:1<=c) (h2:c<W):zfj L m W c (m+c-1)=if (L (m+c)).p=2 then blk (L (m+c-1)).n else L (m+c-1):=by
 unfold zfj;by_cases e:(L (m+c)).p=2
 ·rw[if_pos ⟨h,by omega,e⟩,if_pos e];unfold zgU;rw[if_neg (by omega),if_pos rfl]
 ·rw[if_neg (λx=>e x.2.2),if_neg e]
theorem zdx {L:Nat->zk} {m W c:Nat} (h:c=0\/W<=c):zfj L m W c=L:=by
 unfold zfj;rw[if_neg (by omega)]
theorem zhq {W H:Nat} {G:Nat->Nat->zk} (h:Wf W H G) {x0 x1 y:Nat} (hx:x0<x1) (hx1:x1<=W) (hy:y<H) (c:Nat->zk) {L:Nat->zk}
 (e:∀i,L i=if y*W+x0<=i/\i<y*W+x1 then c (i-y*W) else zet (lin W G) (y*W) W x0 x1 i):
 ZX W H (zec W L) (wrt G (zg5 x0 x1 y) (λa _=>c a)):=by
 intro a b ha hb;unfold zec;rw[e];unfold wrt;by_cases hby:b=y
 ·subst hby;by_cases hs:x0<=a/\a<x1
  ·rw[if_pos (by omega),if_pos (Zv.2 ⟨rfl,hs⟩),show b*W+a-b*W=a by omega]
  ·rw[if_neg (by omega),if_neg (λx=>hs (Zv.1 x).2)];unfold zet;rcases(by omega:a<x0\/x1<=a) with l|l
   ·rw[zcv (c:=x1) (by omega) (by omega)];by_cases hl:a+1=x0
    ·subst hl;have:=ziF (L:=lin W G) (m:=b*W) (W:=W) (c:=a+1) (by omega) (by omega);rw[show b*W+(a+1)-1=b*W+a by omega,zbo G b (by omega),zbo G b ha] at this;rw[this];by_cases hp:(G (a+1) b).p=2
     ·obtain⟨_,t⟩:=h.tail (a+1) b (by omega) hb hp;simp only[Nat.add_sub_cancel] at t;rw[if_pos hp,if_pos (.inl ⟨by rw[t],Zv.2 ⟨rfl,by omega,by omega⟩⟩)]
     ·rw[if_neg hp,if_neg];rintro(⟨p,_⟩|⟨_,_,q⟩)
      ·obtain⟨_,t⟩:=h.head a b ha hb p;exact hp (by rw[t])
      ·have:=Zv.1 q;omega
    ·rw[zcv (by omega) (by omega),zbo G b ha,if_neg];rintro(⟨_,q⟩|⟨_,_,q⟩)<;>(have:=Zv.1 q;omega)
   ·by_cases hl:a=x1
    ·subst hl;rw[zrT (by omega) (by omega),zcv (c:=x0) (by omega) (by omega),zbo G b ha];by_cases hp:(G a b).p=2
     ·rw[if_pos hp,if_pos (.inr ⟨hp,by omega,Zv.2 ⟨rfl,by omega,by omega⟩⟩)]
     ·rw[if_neg hp,if_neg];rintro(⟨_,q⟩|⟨q,_⟩)
      ·have:=Zv.1 q;omega
      ·exact hp q
    ·rw[zcv (by omega) (by omega),zcv (by omega) (by omega),zbo G b ha,if_neg];rintro(⟨_,q⟩|⟨_,_,q⟩)<;>(have:=Zv.1 q;omega)
 ·have far:b*W+W<=y*W\/y*W+W<=b*W:=by
   rcases(by omega:b<y\/y<b) with l|l
   ·left;have:=Nat.mul_le_mul_right W l;rw[Nat.succ_mul] at this;exact this
   ·right;have:=Nat.mul_le_mul_right W l;rw[Nat.succ_mul] at this;exact this
  rw[if_neg (by omega),if_neg (λx=>hby (Zv.1 x).1),if_neg]
  ·unfold zet;have f:∀(M:Nat->zk) c,c<=W->zfj M (y*W) W c (b*W+a)=M (b*W+a):=by
    intro M c hc;by_cases hc0:c=0\/W<=c
    ·rw[zdx hc0]
    ·exact zcv (by omega) (by omega)
   rw[f _ _ hx1,f _ _ (by omega),zbo G b ha]
  ·rintro(⟨_,q⟩|⟨_,_,q⟩)<;>exact hby (Zv.1 q).1
end
section
open Go.RowKit
attribute [local go_sem ↓] Go.wp_at_zero Go.wp_at_succ
theorem keepC {F:Nat->Prop} {w w':World} (h:zd F w w') {b:Nat} (hb:b<w.heap.size) (hF:¬F b):∀o,w'.cell? ⟨b,o,none⟩=w.cell? ⟨b,o,none⟩:=λo=>Zj (h.block b hb hF) o
def zaH (W:Nat) (x0 x1:Int) (y:Nat) (p:Pn) (G:Nat->Nat->zk):Nat->Nat->zk:=
 wrt G (λa b=>decide (b=y)&&decide (x0<=a)&&decide ((a:Int)<x1)&&decide (a<W)) (λ_ _=>blk p)
theorem zlV (bg g W H N:Nat) (G:Nat->Nat->zk) (x0 x1:Int) (y:Nat) (p:Pn) (w:World) (h:Zi w bg g W H N G) (hw:Wf W H G) (hy:y<H):
 Calls Tryz.prog 140 #[.pointer (some ⟨bg,0,none⟩),.int .i64 x0,.int .i64 x1,.int .i64 y,p.agg] w λe w'=>e=.returned (.tuple #[])/\Zi w' bg g W H N (zaH W x0 x1 y p G)/\zd (λi=>i=g) w w':=by
 have HG:=zH h;have c0:=h.c0;have w1:=h.w1;have w2:=h.w2;clear h;go_in;go_wp2_with fail;have hb1:Below w.heap.size w (w.alloc (.cells #[.int .i64 p.f,.int .i64 p.b,.bool p.bo,.bool p.un,.bool p.re] 33)):=(Below.refl _ _).alloc (Nat.le_refl _) _;have G1:=HG.out.below hb1;have K1:zd (λi=>i=g) w (w.alloc (.cells #[.int .i64 p.f,.int .i64 p.b,.bool p.bo,.bool p.un,.bool p.re] 33)):=zd.below _ hb1;have P1:=ZO w p 33;have s1:w.heap.size<(w.alloc (.cells #[.int .i64 p.f,.int .i64 p.b,.bool p.bo,.bool p.un,.bool p.re] 33)).heap.size:=by simp
 generalize w.alloc (.cells #[.int .i64 p.f,.int .i64 p.b,.bool p.bo,.bool p.un,.bool p.re] 33)=wa at *;have hgb:=HG.out.glt;have Hne:Hid (w.heap.size≠g):=by show _≠_;omega
 clear hb1 c0 HG s1 hgb;have c0:=G1.c0;have HG1:=zH G1;clear G1;go_at_call 139;refine sM (zcf _ _ _) ?_;have Hf:Hid (zK x0 0=if 0<=x0 then x0 else 0):=by show _=_;unfold zK;split<;>split<;>omega
 have hf0:0<=zK x0 0:=by rw[Hf.out];split<;>omega
 have Ht:Hid (ZU x1 W=if x1<=W then x1 else W):=by show _=_;unfold ZU;split<;>split<;>omega
 have ht:ZU x1 W<=W:=by rw[Ht.out];split<;>omega
 obtain⟨f,hf⟩:∃f:Nat,zK x0 0=f:=⟨_,(Int.toNat_of_nonneg hf0).symm⟩;rw[hf] at Hf;rw[hf];clear hf0 hf;generalize hto:ZU x1 W=to at *;obtain⟨p0,p1,p2,p3,p4⟩:=P1;by_cases hlt:(f:Int)<to
 ·obtain⟨t,rfl⟩:∃t:Nat,to=t:=⟨to.toNat,by omega⟩;go_wp2_with (first|(go_at_call 138;refine sM (zce _ _ _) ?_;rw[hto]));obtain⟨m,hm⟩:∃m,y*W=m:=⟨_,rfl⟩;have hmw:m+W<=N:=by rw[←hm,HG1.out.hN];have:=Nat.mul_le_mul_right W hy;rw[Nat.succ_mul] at this;exact this
  obtain⟨cp,hcp,hd2⟩:=HG1.out.c2;have Hd2:Hid (wa.drew.cell? ⟨bg,2,none⟩=some (.slice (some ⟨g,0,none⟩) N cp)):=hd2;clear hd2;obtain⟨r,hr⟩:∃r,m+r=cp:=⟨cp-m,by omega⟩;have nle:=HG1.out.nle;have np:¬w.heap.size=g:=Hne.out;have lp:w.heap.size<wa.heap.size:=World.block_lt_of_cell? _ _ p0;generalize hB:w.heap.size=Bp at *;have HD:Hid (Zi wa.drew bg g W H N G):=HG1.out.same rfl rfl;go_region_held3 (λw'=>w'.cell? ⟨Bp,0,none⟩=some (.int .i64 p.f)/\w'.cell? ⟨Bp,1,none⟩=some (.int .i64 p.b)/\w'.cell? ⟨Bp,2,none⟩=some (.bool p.bo)/\w'.cell? ⟨Bp,3,none⟩=some (.bool p.un)/\w'.cell? ⟨Bp,4,none⟩=some (.bool p.re)) (simp[*]) (first|(go_at_call 155;refine(znb bg g W H N G f t y m r _ HD.out hy hm cp hcp Hd2.out hr (by omega) (by omega)).mono ?_;rintro e w5 ⟨rfl,F5,K5⟩;have e1:=keepC K5 lp np;have lp5:=Nat.lt_of_lt_of_le lp K5.size)|(go_at_call 148;refine(zhp g N (m+f) (t-f) (r-f) _ _ p _ F5 (λ_=>rfl) (by omega) nle (by omega)).mono ?_;rintro e w6 ⟨rfl,F6,K6⟩;have e2:=keepC K6 lp5 np));go_wp2_with fail;go_end0;have K6':=(((zd.refl _ wa).drew).trans K5 (λ_ _ h=>h)).trans K6 (λ_ _ h=>h);refine⟨rfl,HG1.out.with F6 K6' ((zhq hw (x0:=f) (x1:=t) (y:=y) (by omega) (by omega) hy (λ_=>blk p) (λi=>?_)).trans (zbm hw (λa b ha hb=>?_) (λ_ _ _ _ _=>rfl))),K1.trans K6' (λ_ _ h=>h)⟩
  ·rw[hm];unfold ze7;by_cases e:m+f<=i/\i<m+t
   ·rw[if_pos (by omega),if_pos e]
   ·rw[if_neg (by omega),if_neg e]
  ·have:=Hf.out;have:=Ht.out;rw[Bool.eq_iff_iff,Zv];simp;split at *<;>split at *<;>omega
 ·go_wp2_with (first|(go_at_call 138;refine sM (zce _ _ _) ?_;rw[hto]));go_end0;refine⟨rfl,HG1.out.congr (λa b ha hb=>?_),K1⟩;have no:∀a b,(decide (b=y)&&decide (x0<=(a:Nat))&&decide ((a:Int)<x1)&&decide (a<W))=false:=by
   intro a b;have:=Hf.out;have:=Ht.out;rw[Bool.eq_false_iff];simp;intro _ _ _;split at *<;>split at *<;>omega
  unfold zaH wrt;simp only[no];simp
end
end Go.Proofs.YtjlfibhbfdckpaaGreatDoor
