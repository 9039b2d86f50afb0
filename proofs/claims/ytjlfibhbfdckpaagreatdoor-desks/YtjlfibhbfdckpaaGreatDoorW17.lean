import Derived.Test.YtjlfibhbfdckpaaGreatDoorW16
namespace Go.Proofs.YtjlfibhbfdckpaaGreatDoor
set_option maxHeartbeats 64000000
set_option maxRecDepth 100000
section
open Go.RowKit
section
variable {L:List Wn} {last:Int}
theorem znm (nd:(L.map Wn.n).Nodup) {o:Int} {u:Wn} (hu:u∈L) (hne:u.n≠o):Sub L o u.n↔Sub L o u.par:=by
 constructor
 ·intro h;rcases h.last with e|⟨v,hv,e,hs⟩
  ·exact absurd e hne
  ·obtain rfl:=zak nd hv hu e;exact hs
 ·exact λh=>.step hu h
theorem zkG (nd:(L.map Wn.n).Nodup) (n:Int):((zG L n).map Wn.n).Nodup:=List.Nodup.sublist (List.Sublist.map _ List.filter_sublist) nd
theorem ziS (nd:(L.map Wn.n).Nodup) {v:Wn} (hv:v∈L):(zG L v.n).length+1=L.length:=by
 obtain⟨j,h1,_,h3⟩:=zfk nd hv;have hl:=(List.getElem?_eq_some_iff.1 h1).1;rw[h3,List.length_eraseIdx,if_pos hl];omega
theorem zhA {r:Wn} {t:List Wn} {n:Int} (h:L=r::t) (hr:r.n≠n):zG L n=r::zG t n:=by
 rw[h];unfold zG;rw[List.filter_cons_of_pos (by simpa using hr)]
theorem zp7 (ok:ZK L last) {v q:Wn} (hv:v∈L) (hv0:v.n≠0) (hq:q∈L) (hns:¬Sub L v.n q.n):ZK (zcy L v q.n) last:=by
 obtain⟨rk,K,T⟩:=ok.tree
 classical
 have mem:∀u,u∈zcy L v q.n->(u∈L/\u.n≠v.n)\/u={v with par:=q.n}:=λu hu=>by
  rcases List.mem_append.1 hu with h|h
  ·exact .inl (Za.1 h)
  ·exact .inr (by simpa using h)
 have hq0:=T.pos hq;refine⟨⟨λm=>if Sub L v.n m then rk m+rk q.n+1 else rk m,K+rk q.n+1,?_,?_,?_,?_⟩,?_,?_,?_⟩
 ·obtain⟨r,t,e,h0,h1,h2⟩:=T.head;refine⟨r,zG t v.n ++ [{v with par:=q.n}],?_,h0,h1,λu hu=>?_⟩
  ·show zG L v.n++_=_;rw[zhA e (by rw[h0];exact λe=>hv0 e.symm)];rfl
  ·rcases List.mem_append.1 hu with hu|hu
   ·exact h2 u (Za.1 hu).1
   ·obtain rfl:u={v with par:=q.n}:=by simpa using hu
    exact⟨by show 1<=v.n;have:=T.pos hv;omega,hq0⟩
 ·show((zG L v.n ++ [{v with par:=q.n}]).map Wn.n).Nodup;rw[List.map_append,List.nodup_append];refine⟨zkG T.nd _,by simp,λa ha b hb e=>?_⟩;obtain⟨u,hu,rfl⟩:=List.mem_map.1 ha;obtain rfl:b=v.n:=by simpa using hb
  exact(Za.1 hu).2 e
 ·intro u hu hp;have hin:∀x,x∈L->∃y∈zcy L v q.n,y.n=x.n:=λx hx=>by
   by_cases e:x.n=v.n
   ·exact⟨{v with par:=q.n},List.mem_append.2 (.inr (by simp)),e.symm⟩
   ·exact⟨x,List.mem_append.2 (.inl (Za.2 ⟨hx,e⟩)),rfl⟩
  rcases mem u hu with⟨huL,hne⟩|rfl
  ·obtain⟨⟨x,hx,hxn⟩,hr⟩:=T.up u huL hp;obtain⟨y,hy,hyn⟩:=hin x hx;refine⟨⟨y,hy,hyn.trans hxn⟩,?_⟩;have:=znm T.nd huL hne;by_cases hs:Sub L v.n u.n
   ·show(if Sub L v.n u.par then _ else _)<(if Sub L v.n u.n then _ else _);rw[if_pos (this.1 hs),if_pos hs];omega
   ·show(if Sub L v.n u.par then _ else _)<(if Sub L v.n u.n then _ else _);rw[if_neg (λh=>hs (this.2 h)),if_neg hs];exact hr
  ·obtain⟨y,hy,hyn⟩:=hin q hq;refine⟨⟨y,hy,hyn⟩,?_⟩;show(if Sub L v.n q.n then rk q.n+rk q.n+1 else rk q.n)<(if Sub L v.n v.n then rk v.n+rk q.n+1 else rk v.n);rw[if_neg hns,if_pos .refl];omega
 ·intro u hu;have key:∀x∈L,(if Sub L v.n x.n then rk x.n+rk q.n+1 else rk x.n)<=K+rk q.n+1:=λx hx=>by
   have:=T.le x hx;split<;>omega
  rcases mem u hu with⟨huL,_⟩|rfl
  ·exact key u huL
  ·exact key v hv
 ·intro u hu;rcases mem u hu with⟨huL,_⟩|rfl
  ·exact ok.le u huL
  ·exact ok.le v hv
 ·show(zG L v.n ++ [_]).length<=16;have:=ziS T.nd hv;have:=ok.len;rw[List.length_append];simp;omega
 ·intro u hu;rcases mem u hu with⟨huL,_⟩|rfl
  ·exact ok.pl u huL
  ·exact ok.pl v hv
theorem zuc (ok:ZK L last) {v q:Wn} (hv:v∈L) (hq:q∈L) (hp:v.par=q.n):¬Sub L v.n q.n:=by
 obtain⟨rk,K,T⟩:=ok.tree;intro hs;have h1:=(Sub.rank T (T.pos hv) hs).1;have h2:=(T.up v hv (by rw[hp];exact T.pos hq)).2;rw[hp] at h2;omega
theorem zud (ok:ZK L last) {v:Wn} (hv:v∈L) (hv0:v.n≠0):ZK (zcK L v) last:=by
 obtain⟨rk,K,T⟩:=ok.tree;obtain⟨r,t,e,h0,h1,h2⟩:=T.head;have hf:=zhA e (by rw[h0];exact λe=>hv0 e.symm);have hb:zcK L v=r::v::zG t v.n:=by unfold zcK;rw[hf]
 have hmem:∀u,u∈zcK L v↔u∈L:=λu=>by
  rw[zkB,Za];constructor
  ·rintro(rfl|⟨h,_⟩)
   ·exact hv
   ·exact h
  ·intro h;by_cases e:u.n=v.n
   ·exact .inl (zak T.nd h hv e)
   ·exact .inr ⟨h,e⟩
 refine⟨⟨rk,K,?_,?_,?_,?_⟩,?_,?_,?_⟩
 ·refine⟨r,v::zG t v.n,hb,h0,h1,λu hu=>?_⟩;rcases List.mem_cons.1 hu with rfl|hu
  ·rw[e] at hv;rcases List.mem_cons.1 hv with rfl|hv
   ·exact absurd h0 hv0
   ·exact h2 u hv
  ·exact h2 u (Za.1 hu).1
 ·rw[hb];have nd:=zkG T.nd v.n;rw[hf] at nd;simp only[List.map_cons,List.nodup_cons,List.mem_cons,List.mem_map] at nd ⊢;refine⟨?_,?_,nd.2⟩
  ·rintro(e|h)
   ·exact hv0 (e.symm.trans h0)
   ·exact nd.1 h
  ·rintro⟨u,hu,e⟩;exact(Za.1 hu).2 e
 ·intro u hu hp;obtain⟨⟨x,hx,hxn⟩,hr⟩:=T.up u ((hmem u).1 hu) hp;exact⟨⟨x,(hmem x).2 hx,hxn⟩,hr⟩
 ·exact λu hu=>T.le u ((hmem u).1 hu)
 ·exact λu hu=>ok.le u ((hmem u).1 hu)
 ·rw[ziR,zhy];have:=ziS T.nd hv;have:=ok.len;omega
 ·exact λu hu=>ok.pl u ((hmem u).1 hu)
theorem zsl (ok:ZK L last) {v:Wn} (hv:v∈L) (hv0:v.n≠0):¬Sub L v.n 0:=by
 obtain⟨rk,K,T⟩:=ok.tree;intro hs;obtain⟨r,hr,h0,hp⟩:=T.rootIn;rw[←h0] at hs;have:=(znm T.nd hr (by rw[h0];exact λe=>hv0 e.symm)).1 hs;rw[hp] at this;have:=(Sub.rank T (T.pos hv) this).2;omega
theorem zue (ok:ZK L last) {v:Wn} (hv:v∈L) (hv0:v.n≠0):ZK (delL L v.n) last:=by
 obtain⟨rk,K,T⟩:=ok.tree;have sub:(delL L v.n).Sublist L:=List.filter_sublist;refine⟨⟨rk,K,?_,?_,?_,?_⟩,?_,?_,?_⟩
 ·obtain⟨r,t,e,h0,h1,h2⟩:=T.head;refine⟨r,t.filter (λu=>!(@decide (Sub L v.n u.n) (Classical.propDecidable _))),?_,h0,h1,λu hu=>h2 u (List.mem_filter.1 hu).1⟩;have hr:r∈delL L v.n:=zbY.2 ⟨by rw[e];exact List.mem_cons_self,by rw[h0];exact zsl ok hv hv0⟩;unfold delL
  conv=>lhs;rw[show L.filter (λu=>!(@decide (Sub L v.n u.n) (Classical.propDecidable _)))=(r::t).filter (λu=>!(@decide (Sub L v.n u.n) (Classical.propDecidable _))) from congrArg (List.filter _) e]
  rw[List.filter_cons_of_pos];simpa using(zbY.1 hr).2
 ·exact List.Nodup.sublist (List.Sublist.map _ sub) T.nd
 ·intro u hu hp;obtain⟨huL,hun⟩:=zbY.1 hu;obtain⟨⟨x,hx,hxn⟩,hr⟩:=T.up u huL hp;refine⟨⟨x,zbY.2 ⟨hx,λhs=>hun (.step huL (by rw[←hxn];exact hs))⟩,hxn⟩,hr⟩
 ·exact λu hu=>T.le u (sub.subset hu)
 ·exact λu hu=>ok.le u (sub.subset hu)
 ·exact Nat.le_trans sub.length_le ok.len
 ·exact λu hu=>ok.pl u (sub.subset hu)
end
def zbC (c:Int->Nat) (v:Wn):List Value:=[.int .i64 v.n,.int .i64 v.par,.int .i64 v.x,.int .i64 v.y,.bool v.sh,.pointer (some ⟨c v.n,0,none⟩)]
def ZE (c:Int->Nat) (L:List Wn):List Value:=L.flatMap (zbC c)
theorem zfG (c:Int->Nat) (L M:List Wn):ZE c (L++M)=ZE c L++ZE c M:=by simp[ZE]
theorem ziT (c:Int->Nat) (v:Wn):ZE c [v]=zbC c v:=by simp[ZE]
theorem zjM (c:Int->Nat) (L:List Wn):(ZE c L).length=L.length*6:=by
 induction L with
 |nil=>rfl
 |cons v L ih=>simp[ZE,zbC] at ih ⊢;omega
theorem zp8 (c:Int->Nat):∀(L:List Wn) (i j:Nat) (v:Wn),L[i]?=some v->j<6->(ZE c L)[i*6+j]?=(zbC c v)[j]?:=by
 intro L;induction L with
 |nil=>intro i j v h;simp at h
 |cons a L ih=>
  intro i j v h hj;have e:ZE c (a::L)=zbC c a++ZE c L:=by simp[ZE]
  have hl:(zbC c a).length=6:=rfl;rw[e];cases i with
  |zero=>
   obtain rfl:a=v:=by simpa using h
   rw[List.getElem?_append_left (by omega)];simp
  |succ i=>
   rw[List.getElem?_append_right (by omega),hl,show(i+1)*6+j-6=i*6+j by omega];exact ih i j v (by simpa using h) hj
def zvF (w:World) (b o:Nat) (c:Nat) (v:Wn):Prop:=w.cell? ⟨b,o,none⟩=some (.int .i64 v.n)/\w.cell? ⟨b,o+1,none⟩=some (.int .i64 v.par)/\w.cell? ⟨b,o+2,none⟩=some (.int .i64 v.x)/\w.cell? ⟨b,o+3,none⟩=some (.int .i64 v.y)/\w.cell? ⟨b,o+4,none⟩=some (.bool v.sh)/\w.cell? ⟨b,o+5,none⟩=some (.pointer (some ⟨c,0,none⟩))
theorem zsm {w:World} {base g n cap:Nat} {c:Int->Nat} {L:List Wn} {t:TypeId} (h:w.ownsRow base t 6 (.slice (some ⟨g,0,none⟩) n cap) n (ZE c L)) (i:Nat) (v:Wn) (hi:L[i]?=some v):zvF w g (i*6) (c v.n) v:=by
 obtain⟨hl,h|⟨g',cap',cur,hv,hb,hg,hn,hm,hs,ht⟩⟩:=h
 ·simp at h
 ·simp at hv;obtain⟨rfl,rfl⟩:=hv;have hil:=(List.getElem?_eq_some_iff.1 hi).1;rw[zjM] at hl;have key:∀j u,(zbC c v)[j]?=some u->w.cell? ⟨g,i*6+j,none⟩=some u:=by
   intro j u hju;have hj:j<6:=(List.getElem?_eq_some_iff.1 hju).1;have:=zp8 c L i j v hi hj;rw[←ht,List.getElem?_take_of_lt (by omega),Array.getElem?_toList,hju] at this;rw[za hg];exact this
  exact⟨key 0 _ rfl,key 1 _ rfl,key 2 _ rfl,key 3 _ rfl,key 4 _ rfl,key 5 _ rfl⟩
structure Rm where
 d:Nat
 l:Value
 c:Int->Nat
 g:Int->Nat
 cap:Int->Nat
def Rm.blk (R:Rm):Pl->Option Nat
 |.top 0=>some R.d
 |.top _=>R.l.ownBlock
 |.win n 0=>some (R.c n)
 |.win n _=>some (R.g n)
def Pl.okR (L:List Wn):Pl->Prop
 |.top k=>k<2
 |.win n k=>k<2/\∃v∈L,v.n=n
def Rm.own (R:Rm) (L:List Wn) (i:Nat):Prop:=∃p:Pl,p.okR L/\R.blk p=some i
def Rm.inj (R:Rm) (L:List Wn):Prop:=∀(p q:Pl) (i:Nat),p.okR L->q.okR L->R.blk p=some i->R.blk q=some i->p=q
structure Zq (w:World) (R:Rm) (L:List Wn) (last:Int):Prop where
 blk:w.heap[R.d]?=some (.cells #[R.l,.int .i64 last] 110)
 row:w.ownsRow 2 107 6 R.l L.length (ZE R.c L)
 win:∀v∈L,Zp w (R.c v.n) (R.g v.n) (R.cap v.n) v.W v.H (v.H*v.W) v.G
 wf:∀v∈L,Wf v.W v.H v.G
 inj:R.inj L
 two:∀i,R.own L i->2<=i
section
variable {w w':World} {R:Rm} {L:List Wn} {last:Int}
theorem Zq.lt (h:Zq w R L last) {i:Nat} (hi:R.own L i):i<w.heap.size:=by
 obtain⟨p,hp,hb⟩:=hi;cases p with
 |top k=>
  have hk:k<2:=hp;match k,hk with
  |0,_=>
    obtain rfl:R.d=i:=by simpa[Rm.blk] using hb
    exact(Array.getElem?_eq_some_iff.1 h.blk).1
  |1,_=>exact(h.row.lt i hb).2
 |win n k=>
  obtain⟨hk,v,hv,rfl⟩:=hp;match k,hk with
  |0,_=>
    obtain rfl:R.c v.n=i:=by simpa[Rm.blk] using hb
    exact(Array.getElem?_eq_some_iff.1 (h.win v hv).blk).1
  |1,_=>
    obtain rfl:R.g v.n=i:=by simpa[Rm.blk] using hb
    exact(h.win v hv).glt
theorem zbp (R:Rm) (L:List Wn):R.own L R.d:=⟨.top 0,(by show 0<2;omega),rfl⟩
theorem zc1 (R:Rm) (L:List Wn) {i:Nat} (hi:R.l.ownBlock=some i):R.own L i:=⟨.top 1,(by show 1<2;omega),hi⟩
theorem zmc (R:Rm) {L:List Wn} {v:Wn} (hv:v∈L):R.own L (R.c v.n):=⟨.win v.n 0,⟨by omega,v,hv,rfl⟩,rfl⟩
theorem zfm (R:Rm) {L:List Wn} {v:Wn} (hv:v∈L):R.own L (R.g v.n):=⟨.win v.n 1,⟨by omega,v,hv,rfl⟩,rfl⟩
theorem Zq.same (h:Zq w R L last) (hs:∀i,R.own L i->w'.heap[i]?=w.heap[i]?):Zq w' R L last:=
 ⟨by rw[hs _ (zbp R L)];exact h.blk,zx h.row (λi hi=>hs i (zc1 R L hi)),λv hv=>(h.win v hv).same (hs _ (zmc R hv)) (hs _ (zfm R hv)),h.wf,h.inj,h.two⟩
theorem Zq.below (h:Zq w R L last) (hb:Below w.heap.size w w'):Zq w' R L last:=h.same (λi hi=>hb.block i (h.lt hi))
theorem Zq.keep {F:Nat->Prop} (h:Zq w R L last) (k:zd F w w') (hF:∀i,R.own L i->¬F i):Zq w' R L last:=h.same (λi hi=>k.block i (h.lt hi) (hF i hi))
theorem Zq.drewN (h:Zq w R L last) (n:Nat):Zq (w.drewN n) R L last:=h.same (λ_ _=>rfl)
theorem Zq.d0 (h:Zq w R L last):w.cell? ⟨R.d,0,none⟩=some R.l:=za h.blk 0
theorem Zq.d1 (h:Zq w R L last):w.cell? ⟨R.d,1,none⟩=some (.int .i64 last):=za h.blk 1
theorem Zq.ne (h:Zq w R L last) {p q:Pl} {i j:Nat} (hp:p.okR L) (hq:q.okR L) (hi:R.blk p=some i) (hj:R.blk q=some j) (hpq:p≠q):i≠j:=λe=>hpq (h.inj p q i hp hq hi (e ▸ hj))
end
def Zr (R:Rm) (L L':List Wn) (last':Int) (w:World) (r:Value) (e:Ending) (w':World):Prop:=
 ∃R',e=.returned r/\Zq w' R' L' last'/\R'.d=R.d/\zd (R.own L) w w'/\∀i,R'.own L' i->R.own L i\/w.heap.size<=i
end
section
open Go.RowKit
open Wd (wd)
attribute [local go_sem ↓] Go.wp_at_zero Go.wp_at_succ
theorem zp9 (x y:Int) (w:World) (hs:ZC x y=false):
 Calls Tryz.prog 30 #[.int .i64 x,.int .i64 y] w λe w'=>e=.returned (.pointer none)/\w'=w:=by
 go_in;go_wp2_with (go_at_call 73;refine(zbv _ _ _).mono ?_;rintro e w' ⟨rfl,rfl⟩);go_ret;exact⟨rfl,rfl⟩
theorem ziU (W H:Nat) (w:World) (w1:1<=W) (w2:W<=40) (h1:1<=H) (h2:H<=20):
 Calls Tryz.prog 30 #[.int .i64 W,.int .i64 H] w λe w'=>∃bs bc g cap,e=.returned (.pointer (some ⟨bs,0,none⟩))/\w.heap.size<=bs/\w.heap.size<=bc/\w.heap.size<=g/\zi w' bs bc g cap (H*W) (zfh W H)/\Below w.heap.size w w':=by
 have hs:ZC W H=true:=Zs.2 (by omega);go_in;go_wp2_with fail;go_at_call 73;refine(zbv _ _ _).mono ?_;rintro e w' ⟨rfl,rfl⟩;go_wp2_with fail;go_at_call 74;refine(zg3 W H _ w1 w2 h1 h2).mono ?_;rintro e wm ⟨bc,g,cap,rfl,hbc,hg,C,B⟩;have HC:=zH C;have lb:=C.lt;have lg:=C.glt;clear C;go_wp2_with fail;go_ret;have hb0:Below wm.heap.size wm (wm.alloc (.cells (zf2 bc (zfh W H)) 104)):=(Below.refl _ _).alloc (Nat.le_refl _) _;refine⟨wm.heap.size,bc,g,cap,rfl,B.size,hbc,hg,⟨zf _ _,HC.out.below hb0,by omega,by omega⟩,B.trans (hb0.mono B.size)⟩
theorem zfH (bs bc g cap N:Nat) (s:Rs) (w:World) (h:zi w bs bc g cap N s):
 Calls Tryz.prog 69 #[.pointer (some ⟨bs,0,none⟩)] w λe w'=>e=.returned (zcs s.W s.H s.x s.y s.pend s.pen s.top s.bot (zat s))/\Below w.heap.size w w':=by
 have f1:=h.f1;have f2:=h.f2;have f3:=h.f3;have f4:=h.f4;have f5:=h.f5;have f6:=h.f6;have f7:=h.f7;have f8:=h.f8;have f9:=h.f9;have f10:=h.f10;have f11:=h.f11;have f12:=h.f12;have f13:=h.f13;have f14:=h.f14;have l:=h.lt;clear h;go_in;go_wp2_with fail;exact bodyPost_ret (v:=zcs s.W s.H s.x s.y s.pend s.pen s.top s.bot (zat s)) (by simp[results,Tryz.results69,go_sem,zat]) rfl ⟨rfl,((Below.refl _ _).alloc (Nat.le_refl _) _).alloc (by simp) _⟩
theorem zkH (w:World):
 Calls Tryz.prog 69 #[.pointer none] w λe w'=>e=.returned (zcs 0 0 0 0 false Pn.plain 0 0 false)/\Below w.heap.size w w':=by
 go_in;go_wp2_with fail;exact bodyPost_ret (v:=zcs 0 0 0 0 false Pn.plain 0 0 false) (by simp[results,Tryz.results69,go_sem,Pn.plain]) rfl ⟨rfl,(Below.refl _ _).alloc (Nat.le_refl _) _⟩
theorem zmd (x y:Int) (w:World):
 Calls Tryz.prog 70 #[.pointer none,.int .i64 x,.int .i64 y] w λe w'=>e=.returned (.tuple #[zbR.agg,.int .i64 1])/\Below w.heap.size w w':=by
 go_in;go_wp2_with fail;exact bodyPost_ret (v:=.tuple #[zbR.agg,.int .i64 1]) (by simp[results,Tryz.results70,go_sem,zbR,Pn.plain]) rfl ⟨rfl,(Below.refl _ _).alloc (Nat.le_refl _) _⟩
theorem ziV (bs bc g cap N:Nat) (s:Rs) (x y:Int) (w:World) (h:zi w bs bc g cap N s) (hin:inG s.W s.H x y=false):
 Calls Tryz.prog 70 #[.pointer (some ⟨bs,0,none⟩),.int .i64 x,.int .i64 y] w λe w'=>e=.returned (.tuple #[zbR.agg,.int .i64 4])/\Below w.heap.size w w':=by
 have f0:=h.f0;have l:=h.lt;have c0:=h.cels.c0;have c1:=h.cels.c1;have lc:=h.cels.lt;clear h;go_in;go_wp2_with fail;go_at_call 92;refine(zbQ bc s.W s.H x y _ ?_ ?_).mono ?_
 ·simp[go_sem,c0,lc]
 ·simp[go_sem,c1,lc]
 rintro e w' ⟨rfl,rfl⟩;go_wp2_with fail;exact bodyPost_ret (v:=.tuple #[zbR.agg,.int .i64 4]) (by simp[results,Tryz.results70,go_sem,zbR,Pn.plain]) rfl ⟨rfl,(Below.refl _ _).alloc (Nat.le_refl _) _⟩
theorem zd2 (bs bc g cap N:Nat) (s:Rs) (x y:Int) (w:World) (h:zi w bs bc g cap N s) (hin:inG s.W s.H x y=true):
 Calls Tryz.prog 70 #[.pointer (some ⟨bs,0,none⟩),.int .i64 x,.int .i64 y] w λe w'=>e=.returned (.tuple #[(s.G x.toNat y.toNat).agg,.int .i64 0])/\Below w.heap.size w w':=by
 obtain⟨x0,x1,y0,y1⟩:=zu.1 hin;have f0:=h.f0;have l:=h.lt;have c0:=h.cels.c0;have c1:=h.cels.c1;have lc:=h.cels.lt;have HC:=zH h.cels;clear h;go_in;go_wp2_with fail;go_at_call 92;refine(zbQ bc s.W s.H x y _ ?_ ?_).mono ?_
 ·simp[go_sem,c0,lc]
 ·simp[go_sem,c1,lc]
 rintro e w' ⟨rfl,rfl⟩;go_wp2_with fail;go_at_call 94;refine(zeo bc g cap s.W s.H N s.G x y _ (HC.out.below ((Below.refl _ _).alloc (Nat.le_refl _) _)) x0 x1 y0 y1).mono ?_;rintro e w2 ⟨rfl,hb2⟩;have hz:w.heap.size<w2.heap.size:=by have:=hb2.size;simp at this;omega
 have hc:=hb2.cells (b:=w.heap.size) (by simp);have hf:=hb2.marks (b:=w.heap.size) (by simp);have hB:=((Below.refl _ _).alloc (Nat.le_refl _) _).trans (hb2.mono (by simp));clear hb2;go_wp2_with fail;exact bodyPost_ret (v:=.tuple #[(s.G x.toNat y.toNat).agg,.int .i64 0]) (by simp[results,Tryz.results70,go_sem,hc]) rfl ⟨rfl,((zd.below (λi=>i=w.heap.size) hB).put7 w.heap.size 0 (s.G x.toNat y.toNat) (λ_=>rfl)).toBelow (Nat.le_refl _) (λi hi=>by omega)⟩
theorem zfI (x y:Int) (w:World):
 Calls Tryz.prog 38 #[.pointer none,.int .i64 x,.int .i64 y] w λe w'=>e=.returned (.int .i64 1)/\w'=w:=by
 go_in;go_wp2_with fail;go_ret;exact⟨rfl,rfl⟩
theorem zgF (bs bc g cap N:Nat) (s:Rs) (x y:Int) (w:World) (h:zi w bs bc g cap N s) (hs:ZC x y=false):
 Calls Tryz.prog 38 #[.pointer (some ⟨bs,0,none⟩),.int .i64 x,.int .i64 y] w (zac bs bc g w s (.int .i64 3)):=by
 go_in;go_wp2_with (go_at_call 73;refine(zbv _ _ _).mono ?_;rintro e w' ⟨rfl,rfl⟩);go_ret;exact Z5 h (zd.refl _ _) (.inl rfl)
theorem zfJ (bs bc g cap N:Nat) (s:Rs) (W H:Nat) (w:World) (h:zi w bs bc g cap N s) (ok:s.Ok) (w1:1<=W) (w2:W<=40) (h1:1<=H) (h2:H<=20):
 Calls Tryz.prog 38 #[.pointer (some ⟨bs,0,none⟩),.int .i64 W,.int .i64 H] w (zac bs bc g w (zaB s W H) (.int .i64 0)):=by
 have hs:ZC W H=true:=Zs.2 (by omega);have f0:=h.f0;have HR:=zH h;have Hok:=zH ok;have nsc:=h.ne1;have lbs:=h.lt;clear h ok;go_in;go_wp2_with fail;go_at_call 73;refine sM (zbv _ _ _) ?_;go_wp2_with fail;go_at_call 90;refine(zhj bc g cap s.W s.H N W H s.G _ HR.out.cels Hok.out.wf w1 w2 h1 h2).mono ?_;rintro e w3 ⟨g3,cap3,rfl,C3,K3,hg3⟩;have hbs:=(K3.block _ lbs nsc).trans HR.out.blk;have K3':zd (λi=>i=bs\/i=bc\/i=g) w w3:=K3.mono (λi hi=>.inr (.inl hi));have q1:w3.cell? ⟨bs,1,none⟩=some (.int .i64 s.W):=za hbs 1;have q2:w3.cell? ⟨bs,2,none⟩=some (.int .i64 s.H):=za hbs 2;have q3:w3.cell? ⟨bs,3,none⟩=some (.int .i64 s.x):=za hbs 3;have q4:w3.cell? ⟨bs,4,none⟩=some (.int .i64 s.y):=za hbs 4;have q11:w3.cell? ⟨bs,11,none⟩=some (.int .i64 s.top):=za hbs 11;have q12:w3.cell? ⟨bs,12,none⟩=some (.int .i64 s.bot):=za hbs 12;have fr:=ze hbs;have HC:=zH C3;have Hbs:=zH hbs;clear C3 hbs K3 HR f0;go_wp2_with fail;have R4:zi ((((w3.setCell ⟨bs,1,none⟩ (.int .i64 W)).setCell ⟨bs,2,none⟩ (.int .i64 H)).setCell ⟨bs,11,none⟩ (.int .i64 0)).setCell ⟨bs,12,none⟩ (.int .i64 ((H:Int)-1))) bs bc g3 cap3 (H*W) {s with W:=W,H:=H,top:=0,bot:=(H:Int)-1,G:=ZJ s.W s.H W s.G}:=by
  have hgne:g3≠bs:=by omega
  refine⟨zg (zg (zg (zg Hbs.out 1 _) 2 _) 11 _) 12 _,HC.out.same ?_ ?_,nsc,λe=>hgne e.symm⟩
  ·rw[Below.heap_setCell _ _ _ _ (λe=>nsc e.symm),Below.heap_setCell _ _ _ _ (λe=>nsc e.symm),Below.heap_setCell _ _ _ _ (λe=>nsc e.symm),Below.heap_setCell _ _ _ _ (λe=>nsc e.symm)]
  ·rw[Below.heap_setCell _ _ _ _ hgne,Below.heap_setCell _ _ _ _ hgne,Below.heap_setCell _ _ _ _ hgne,Below.heap_setCell _ _ _ _ hgne]
 have K4:zd (λi=>i=bs\/i=bc\/i=g) w ((((w3.setCell ⟨bs,1,none⟩ (.int .i64 W)).setCell ⟨bs,2,none⟩ (.int .i64 H)).setCell ⟨bs,11,none⟩ (.int .i64 0)).setCell ⟨bs,12,none⟩ (.int .i64 ((H:Int)-1))):=
  (((K3'.setCell ⟨bs,1,none⟩ _ (λ_=>.inl rfl)).setCell ⟨bs,2,none⟩ _ (λ_=>.inl rfl)).setCell ⟨bs,11,none⟩ _ (λ_=>.inl rfl)).setCell ⟨bs,12,none⟩ _ (λ_=>.inl rfl)
 generalize ((((w3.setCell ⟨bs,1,none⟩ (.int .i64 W)).setCell ⟨bs,2,none⟩ (.int .i64 H)).setCell ⟨bs,11,none⟩ (.int .i64 0)).setCell ⟨bs,12,none⟩ (.int .i64 ((H:Int)-1)))=w4 at *;have f3:w4.cell? ⟨bs,3,none⟩=some (.int .i64 s.x):=R4.f3;have f4:w4.cell? ⟨bs,4,none⟩=some (.int .i64 s.y):=R4.f4;have HR4:=zH R4;clear R4 K3' q1 q2 q3 q4 q11 q12 fr HC Hbs;go_region_with (first|(go_at_call 91;refine(zdU bs bc g3 cap3 (H*W) {s with W:=W,H:=H,top:=0,bot:=(H:Int)-1,G:=ZJ s.W s.H W s.G} s.x s.y _ HR4.out.drew).mono ?_;rintro e w5 ⟨rfl,R5,K5⟩));all_goals
  have K6:=K4.trans (⟨K5.os,K5.tape,K5.output,K5.size,K5.block⟩:zd (λi=>i=bs) w4 w5) (λi _ hi=>.inl hi);clear K5;go_wp2_with fail;go_ret;exact Z5 (s:=zaB s W H) R5 K6 (.inr hg3)
end
section
open Go.RowKit
structure Dv where
 M:Mm
 N:Nat
 s:Rs
 t:Pt
 R:Rm
 L:List Wn
 last:Int
 bs:Nat
 bc:Nat
 g:Nat
 cap:Nat
 n:Nat
 q:Rs
def Dv.own (D:Dv) (i:Nat):Prop:=D.M.own D.L i\/D.R.own D.L i\/i=D.bs\/i=D.bc\/i=D.g
structure zc2 (w:World) (D:Dv):Prop where
 x:zI w D.M D.L D.last D.N D.s D.t
 y:Zq w D.R D.L D.last
 z:zi w D.bs D.bc D.g D.cap D.n D.q
 ok:ZK D.L D.last
 so:D.s.Ok
 qo:D.q.Ok
 l0:0<=D.last
 xy:∀i,D.M.own D.L i->¬D.R.own D.L i
 xz:∀i,D.M.own D.L i->¬(i=D.bs\/i=D.bc\/i=D.g)
 yz:∀i,D.R.own D.L i->¬(i=D.bs\/i=D.bc\/i=D.g)
theorem zI.keep' {F:Nat->Prop} {w w':World} {M:Mm} {L:List Wn} {last:Int} {N:Nat} {s:Rs} {t:Pt} (h:zI w M L last N s t) (k:zd F w w') (hF:∀i,M.own L i->¬F i):zI w' M L last N s t:=h.same (λi hi=>k.block i (h.lt hi) (hF i hi))
section
variable {w w':World} {D:Dv}
theorem zc2.lt (h:zc2 w D) {i:Nat} (hi:D.own i):i<w.heap.size:=by
 rcases hi with hi|hi|rfl|rfl|rfl
 ·exact h.x.lt hi
 ·exact h.y.lt hi
 ·exact h.z.lt
 ·exact h.z.cels.lt
 ·exact h.z.cels.glt
theorem zc2.keep {F:Nat->Prop} (h:zc2 w D) (k:zd F w w') (hF:∀i,D.own i->¬F i):zc2 w' D:=
 ⟨h.x.keep' k (λi hi=>hF i (.inl hi)),h.y.keep k (λi hi=>hF i (.inr (.inl hi))),h.z.same (k.block _ h.z.lt (hF _ (.inr (.inr (.inl rfl))))) (k.block _ h.z.cels.lt (hF _ (.inr (.inr (.inr (.inl rfl)))))) (k.block _ h.z.cels.glt (hF _ (.inr (.inr (.inr (.inr rfl)))))),h.ok,h.so,h.qo,h.l0,h.xy,h.xz,h.yz⟩
theorem zc2.below (h:zc2 w D) (b:Below w.heap.size w w'):zc2 w' D:=h.keep (zd.below (λ_=>False) b) (λ_ _ f=>f)
abbrev Dv.xp (D:Dv):Option Addr:=some ⟨D.M.t 0,0,none⟩
abbrev Dv.yp (D:Dv):Option Addr:=some ⟨D.R.d,0,none⟩
abbrev Dv.sp (D:Dv):Option Addr:=some ⟨D.bs,0,none⟩
structure ZP (w:World) (D D':Dv) (w':World):Prop where
 dv:zc2 w' D'
 xp:D'.xp=D.xp
 yp:D'.yp=D.yp
 sp:D'.sp=D.sp
 keep:zd D.own w w'
 own:∀i,D'.own i->D.own i\/w.heap.size<=i
end
structure Tot (fx fy:Nat) (a:Option Addr->Array Value) (L:List Wn) (last:Int) (L':List Wn) (last':Int) (r:Value):Prop where
 ok:ZK L' last'
 le:last<=last'/\last'<=last+1
 x:∀(w:World) (M:Mm) (N:Nat) (s:Rs) (t:Pt),s.Ok->zI w M L last N s t->Calls Tryz.prog fx (a (some ⟨M.t 0,0,none⟩)) w λe w'=>∃s' t',s'.Ok/\zbZ M L L' last' s' t' w r e w'
 y:∀(w:World) (R:Rm),Zq w R L last->Calls Tryz.prog fy (a (some ⟨R.d,0,none⟩)) w (Zr R L L' last' w r)
def zb0 (fx fy:Nat) (a:Option Addr->Array Value) (x y:Option Addr) (w:World) (r:Value) (F:Nat->Prop) (Q:World->Prop):Prop:=
 Calls Tryz.prog fx (a x) w λe w1=>e=.returned r/\zd F w w1/\Calls Tryz.prog fy (a y) w1 λe w2=>e=.returned r/\zd F w w2/\Q w2
end
section
open Go.RowKit
attribute [local go_sem ↓] Go.wp_at_zero Go.wp_at_succ
section
variable {w:World} {R:Rm} {L:List Wn} {last:Int}
theorem Zq.sl (h:Zq w R L last) (h1:1<=L.length):∃g cap,R.l=.slice (some ⟨g,0,none⟩) L.length cap/\(∀i v,L[i]?=some v->zvF w g (i*6) (R.c v.n) v)/\(∀o,w.frozen? ⟨g,o,none⟩=false)/\L.length<=cap:=by
 obtain⟨g,cap,e⟩:=zam h.row h1;have hr:=h.row;rw[e] at hr;refine⟨g,cap,e,λi v hi=>zsm hr i v hi,λo=>?_,?_⟩
 ·obtain⟨_,h|⟨g',cap',cur,hv,hb,hg,hn,hm,hs,ht⟩⟩:=hr
  ·simp at h
  ·obtain⟨rfl,_⟩:g=g'/\cap=cap':=by simpa using hv
   exact ze hg o
 ·obtain⟨_,h|⟨g',cap',cur,hv,hb,hg,hn,hm,hs,ht⟩⟩:=hr
  ·simp at h
  ·obtain⟨_,rfl⟩:g=g'/\cap=cap':=by simpa using hv
   exact hn
theorem zuf (h:Zq w R L last) (h1:1<=L.length) (hl16:L.length<=16) (n:Int) (j:Nat) (hj:j<=L.length) (hne:∀i v,i<j->L[i]?=some v->v.n≠n) (hat:∀v,L[j]?=some v->v.n=n):
 Calls Tryz.prog 79 #[.pointer (some ⟨R.d,0,none⟩),.int .i64 n] w λe w'=>e=.returned (.int .i64 (if j<L.length then(j:Int) else -1))/\w'=w:=by
 have d0:=h.d0;obtain⟨g,cap,hl,hw,_,_⟩:=h.sl h1;rw[hl] at d0;have Hw:=zH hw;have Hne:=zH hne;have Hat:=zH hat;clear h hw hne hat hl;go_in;go_wp2_with fail;go_loopw[5] (λi w'=>∃k:Nat,k<=j/\i=.int .i64 k/\w'=w) (λi _=>20-(intOf i).toNat)
 case atStart=>exact⟨0,by omega,rfl,rfl⟩
 case round=>
  obtain⟨k,hk,rfl,rfl⟩:=hrel;by_cases hlt:k<L.length
  ·have hlt':(k:Int)<(L.length:Int):=by omega
   obtain⟨v,hv⟩:∃v,L[k]?=some v:=⟨_,List.getElem?_eq_getElem hlt⟩;obtain⟨c0,_,_,_,_,_⟩:=Hw.out k v hv;by_cases he:k=j
   ·subst he;have hvn:=Hat.out v hv;go_wp2_with fail;go_ret;exact⟨rfl,rfl⟩
   ·have hvn:=Hne.out k v (by omega) hv;clear hv;go_wp2_with fail;go_roundw
    case rel=>exact⟨k+1,by omega,by simp,trivial⟩
    case measure=>simp[intOf];omega
  ·have hlt':¬(k:Int)<(L.length:Int):=by omega
   go_wp2_with fail;go_ret;simp
end
section
variable {R:Rm} {L:List Wn} {last:Int}
theorem zgG (ok:ZK L last) (n:Int):(∃v∈L,v.n=n/\∃j,j<L.length/\L[j]?=some v/\(∀i u,i<j->L[i]?=some u->u.n≠n)/\zG L n=L.eraseIdx j/\(j=0↔n=0))\/zch L n=false:=by
 obtain⟨rk,K,T⟩:=ok.tree;by_cases h:zch L n=true
 ·left;obtain⟨v,hv,rfl⟩:=zaX.1 h;obtain⟨j,h1,h2,h3⟩:=zfk T.nd hv;refine⟨v,hv,rfl,j,(List.getElem?_eq_some_iff.1 h1).1,h1,h2,h3,?_⟩;obtain⟨r,T',e,e1,e2,e3⟩:=T.head;constructor
  ·rintro rfl;rw[e] at h1;obtain rfl:r=v:=by simpa using h1
   exact e1
  ·intro h0;by_cases hj:j=0
   ·exact hj
   ·exact absurd (e1.trans h0.symm) (h2 0 r (by omega) (by rw[e];rfl))
 ·right;simpa using h
theorem ZK.one (ok:ZK L last):1<=L.length:=by
 obtain⟨rk,K,T⟩:=ok.tree;obtain⟨r,hr,_⟩:=T.rootIn;exact List.length_pos_of_mem hr
theorem zbq (ok:ZK L last) (w:World) (h:Zq w R L last) (v:Wn) (j:Nat) (hj:L[j]?=some v) (hne:∀i u,i<j->L[i]?=some u->u.n≠v.n):
 Calls Tryz.prog 79 #[.pointer (some ⟨R.d,0,none⟩),.int .i64 v.n] w λe w'=>e=.returned (.int .i64 j)/\w'=w:=by
 have hl:=(List.getElem?_eq_some_iff.1 hj).1;have:=zuf h ok.one ok.len v.n j (by omega) hne (λu hu=>by rw[hj] at hu;injection hu with e;rw[e]);rw[if_pos hl] at this;exact this
theorem zez (ok:ZK L last) (w:World) (h:Zq w R L last) (n:Int) (hn:zch L n=false):
 Calls Tryz.prog 79 #[.pointer (some ⟨R.d,0,none⟩),.int .i64 n] w λe w'=>e=.returned (.int .i64 (-1))/\w'=w:=by
 have hno:∀u∈L,u.n≠n:=λu hu e=>by have:=zaX.2 ⟨u,hu,e⟩;rw[hn] at this;simp at this
 have:=zuf h ok.one ok.len n L.length (Nat.le_refl _) (λi u _ hu=>hno u (List.mem_of_getElem? hu)) (λu hu=>by simp at hu);rw[if_neg (by omega)] at this;exact this
theorem zeW (w:World) (n:Int):
 Calls Tryz.prog 79 #[.pointer none,.int .i64 n] w λe w'=>e=.returned (.int .i64 (-1))/\w'=w:=by
 go_in;go_wp2_with fail;go_ret;exact⟨rfl,rfl⟩
theorem zeX (ok:ZK L last) (w:World) (h:Zq w R L last) (v:Wn) (j:Nat) (hj:L[j]?=some v) (hne:∀i u,i<j->L[i]?=some u->u.n≠v.n) (hj0:j≠0):
 Calls Tryz.prog 143 #[.pointer (some ⟨R.d,0,none⟩),.int .i64 v.n] w λe w'=>e=.returned (.tuple #[.int .i64 j,.int .i64 0])/\w'=w:=by
 have H:=zH<|zbq ok w h v j hj hne
 have h1:¬(j:Int)<0:=by omega
 have h2:¬(j:Int)=0:=by omega
 clear h hj hne;go_in;go_wp2_with (first|(go_at_call 79;refine sM H.out ?_));go_ret2;exact⟨rfl,rfl⟩
theorem zdE (ok:ZK L last) (w:World) (h:Zq w R L last) (n:Int) (he:zU L n≠0):
 Calls Tryz.prog 143 #[.pointer (some ⟨R.d,0,none⟩),.int .i64 n] w λe w'=>e=.returned (.tuple #[.int .i64 (-1),.int .i64 (zU L n)])/\w'=w:=by
 unfold zU at he ⊢;rcases zgG ok n with⟨v,hv,rfl,j,hjl,hj,hne,_,h0⟩|hn
 ·have hh:=zaX.2 ⟨v,hv,rfl⟩;rw[if_neg (by simp[hh])] at he ⊢;by_cases e0:v.n=0
  ·rw[if_pos e0];obtain rfl:=h0.2 e0;have H:Hid (Calls Tryz.prog 79 #[.pointer (some ⟨R.d,0,none⟩),.int .i64 v.n] w λe w'=>e=.returned (.int .i64 0)/\w'=w):=zbq ok w h v 0 hj hne;clear h hj hne he h0 e0;go_in;go_wp2_with (first|(go_at_call 79;refine sM H.out ?_));go_ret2;exact⟨rfl,rfl⟩
  ·rw[if_neg e0] at he;omega
 ·rw[if_pos hn];have H:=zH<|zez ok w h n hn
  clear h he;go_in;go_wp2_with (first|(go_at_call 79;refine sM H.out ?_));go_ret2;exact⟨rfl,rfl⟩
theorem zc3 (w:World) (n:Int):
 Calls Tryz.prog 143 #[.pointer none,.int .i64 n] w λe w'=>e=.returned (.tuple #[.int .i64 (-1),.int .i64 1])/\w'=w:=by
 go_in;go_wp2_with (first|(go_at_call 79;refine sM (zeW _ _) ?_));go_ret2;exact⟨rfl,rfl⟩
theorem zbk (x y:Int) (w:World):
 Calls Tryz.prog 80 #[.int .i64 x,.int .i64 y] w λe w'=>e=.returned (.bool (Zt x y))/\w'=w:=by
 cases h1:Wd.inB x (-1000) 1000<;>cases h2:Wd.inB y (-1000) 1000;all_goals
  go_in;go_wp2_with (first|(go_at_call 86;refine sM (Wd.refBetween _ _ _ _) ?_));go_ret;exact⟨by simp[Zt,h1,h2],rfl⟩
theorem znn (p:Pn) (w:World):
 Calls Tryz.prog 81 #[p.agg] w λe w'=>e=.returned (.bool (zdA p))/\Below w.heap.size w w':=by
 cases h1:Wd.inB p.f 0 8<;>cases h2:Wd.inB p.b 0 8;all_goals
  go_in;go_wp2_with (first|(go_at_call 86;refine sM (Wd.refBetween _ _ _ _) ?_));go_ret;exact⟨by simp[zdA,h1,h2],(Below.refl _ _).alloc (Nat.le_refl _) _⟩
end
theorem zg8 {w:World} {base:Nat} {e:TypeId} {size g n cap:Nat} {xs:List Value} (h:w.ownsRow base e size (.slice (some ⟨g,0,none⟩) n cap) n xs) (k:Nat) (u:Value):(w.setCell ⟨g,k,none⟩ u).ownsRow base e size (.slice (some ⟨g,0,none⟩) n cap) n (xs.set k u):=by
 obtain⟨hl,h|⟨g',cap',cur,hv,hb,hg,hn,hm,hs,ht⟩⟩:=h
 ·simp at h
 ·obtain⟨rfl,rfl⟩:g=g'/\cap=cap':=by simpa using hv
  refine⟨by simpa using hl,.inr ⟨g,cap,_,rfl,hb,zbf hg u,hn,hm,by simpa using hs,?_⟩⟩;rw[Array.toList_setIfInBounds,List.take_set,ht]
theorem zeY (c:Int->Nat):∀(L:List Wn) (j k:Nat) (v v':Wn) (u:Value),L[j]?=some v->k<6->zbC c v'=(zbC c v).set k u->(ZE c L).set (j*6+k) u=ZE c (L.set j v'):=by
 intro L;induction L with
 |nil=>intro j k v v' u h;simp at h
 |cons a L ih=>
  intro j k v v' u h hk hv;have e:∀(a:Wn) L,ZE c (a::L)=zbC c a++ZE c L:=λa L=>by simp[ZE]
  have hl:(zbC c a).length=6:=rfl;cases j with
  |zero=>
   obtain rfl:a=v:=by simpa using h
   rw[List.set_cons_zero,e,e,Nat.zero_mul,Nat.zero_add,List.set_append_left _ _ (by omega),hv]
  |succ j=>
   rw[List.set_cons_succ,e,e,List.set_append_right _ _ (by omega),hl,show(j+1)*6+k-6=j*6+k by omega,ih j k v v' u (by simpa using h) hk hv]
theorem zkI {L:List Wn} (nd:(L.map Wn.n).Nodup) {v:Wn} {j:Nat} (hj:L[j]?=some v) (f:Wn->Wn):zY L v.n f=L.set j (f v):=by
 unfold zY;apply List.ext_getElem?;intro i;rw[List.getElem?_map,List.getElem?_set];by_cases e:j=i
 ·subst e;have hl:=(List.getElem?_eq_some_iff.1 hj).1;rw[hj];simp[hl]
 ·rw[if_neg e];cases hi:L[i]? with
  |none=>rfl
  |some u=>
   have hne:u.n≠v.n:=λhn=>by
    have h1:=(List.getElem?_eq_some_iff.1 hi).1;have h2:=(List.getElem?_eq_some_iff.1 hj).1;have:=List.getElem_inj (i:=j) (j:=i) (h₀:=by simpa using h2) (h₁:=by simpa using h1) nd;exact e (this.1 (by rw[List.getElem_map,List.getElem_map,(List.getElem?_eq_some_iff.1 hi).2,(List.getElem?_eq_some_iff.1 hj).2,hn]))
   simp[hne]
section
variable {R:Rm} {L:List Wn} {last:Int}
theorem Zr.stay {w w':World} {r:Value} (h:Zq w R L last) (hb:Below w.heap.size w w'):Zr R L L last w r (.returned r) w' :=
 ⟨R,rfl,h.below hb,rfl,zd.below _ hb,λ_ hi=>.inl hi⟩
theorem zno {f:Wn->Wn} {n:Int} (hnn:∀u∈L,u.n=n->(f u).n=n) (p:Pl):p.okR (zY L n f)↔p.okR L:=by
 cases p with
 |top k=>exact Iff.rfl
 |win m k=>
  have e:=zeV hnn;have h1:(∃u∈zY L n f,u.n=m)↔m∈(zY L n f).map Wn.n:=by simp
  have h2:(∃u∈L,u.n=m)↔m∈L.map Wn.n:=by simp
  show _/\_↔_/\_;rw[h1,h2,e]
theorem Zq.setRow {w w':World} (h:Zq w R L last) (ok:ZK L last) {v:Wn} {j g cap:Nat} (hj:L[j]?=some v) (hl:R.l=.slice (some ⟨g,0,none⟩) L.length cap) (f:Wn->Wn) (hfn:∀u,(f u).n=u.n) (hfG:∀u,(f u).W=u.W/\(f u).H=u.H/\(f u).G=u.G)
 (hr:w'.ownsRow 2 107 6 (.slice (some ⟨g,0,none⟩) L.length cap) L.length (ZE R.c (L.set j (f v)))) (hk:zd (λi=>i=g) w w') (r:Value):Zr R L (zY L v.n f) last w r (.returned r) w':=by
 obtain⟨rk,K,T⟩:=ok.tree;have hv:=List.mem_of_getElem? hj;have hg:R.l.ownBlock=some g:=by rw[hl];rfl
 have hok:=zno (L:=L) (n:=v.n) (f:=f) (λu _ e=>by rw[hfn];exact e);have kp:=λp i hp e n1=>hk.block i (h.lt ⟨p,hp,e⟩) (λe'=>h.ne (p:=p) (q:=.top 1) hp (show 1<2 by omega) e hg n1 e');have hown:∀i,R.own (zY L v.n f) i->R.own L i:=λi ⟨p,a,b⟩=>⟨p,(hok p).1 a,b⟩;have hmem:∀u∈zY L v.n f,∃u0∈L,u.n=u0.n/\u.W=u0.W/\u.H=u0.H/\u.G=u0.G:=λu hu=>by
  obtain⟨u0,h0,e⟩:=List.mem_map.1 hu;refine⟨u0,h0,?_⟩;split at e
  ·subst e;exact⟨hfn u0,hfG u0⟩
  ·subst e;exact⟨rfl,rfl,rfl,rfl⟩
 refine⟨R,rfl,⟨(kp (.top 0) _ (show 0<2 by omega) rfl (by simp)).trans h.blk,?_,?_,?_,λp q i hp hq=>h.inj p q i ((hok p).1 hp) ((hok q).1 hq),λi hi=>h.two i (hown i hi)⟩,rfl,hk.mono (λi e=>e ▸ zc1 R L hg),λi hi=>.inl (hown i hi)⟩
 ·rw[zkI T.nd hj,hl,List.length_set];exact hr
 ·intro u hu;obtain⟨u0,h0,e1,e2,e3,e4⟩:=hmem u hu;rw[e1,e2,e3,e4];exact(h.win u0 h0).same (kp (.win u0.n 0) _ ⟨by omega,u0,h0,rfl⟩ rfl (by simp)) (kp (.win u0.n 1) _ ⟨by omega,u0,h0,rfl⟩ rfl (by simp))
 ·intro u hu;obtain⟨u0,h0,e1,e2,e3,e4⟩:=hmem u hu;rw[e2,e3,e4];exact h.wf u0 h0
theorem zug (ok:ZK L last) (w:World) (h:Zq w R L last) (v:Wn) (j:Nat) (hj:L[j]?=some v) (hne:∀i u,i<j->L[i]?=some u->u.n≠v.n) (hj0:j≠0) (b:Bool):
 Calls Tryz.prog 101 #[.pointer (some ⟨R.d,0,none⟩),.int .i64 v.n,.bool b] w (Zr R L (zY L v.n (λu=>{u with sh:=b})) last w (.int .i64 0)):=by
 have HR:=zH h;have H:=zH<|zeX ok w h v j hj hne hj0
 have d0:=h.d0;obtain⟨g,cap,hl,hw,hfz,_⟩:=h.sl ok.one;rw[hl] at d0;have hr:=h.row;rw[hl] at hr;obtain⟨c0,c1,c2,c3,c4,c5⟩:=hw j v hj;have hjl:=(List.getElem?_eq_some_iff.1 hj).1;have hjl':(j:Int)<(L.length:Int):=by omega
 have hz:=zH ok.len;have HP:Hid (Zr R L (zY L v.n (λu=>{u with sh:=b})) last w (.int .i64 0) (.returned (.int .i64 0)) (w.setCell ⟨g,j*6+4,none⟩ (.bool b))):=
  h.setRow ok hj hl (λu=>{u with sh:=b}) (λ_=>rfl) (λ_=>⟨rfl,rfl,rfl⟩) (by rw[←zeY R.c L j 4 v _ (.bool b) hj (by omega) rfl];exact zg8 hr _ _) ((zd.refl _ _).setCell _ _ (λ_=>rfl)) _
 clear h hr hw hj hne hl;go_in;go_wp2_with (first|(go_at_call 143;refine sM H.out ?_));go_ret;exact HP.out
theorem zqa (ok:ZK L last) (w:World) (h:Zq w R L last) (v:Wn) (j:Nat) (hj:L[j]?=some v) (hne:∀i u,i<j->L[i]?=some u->u.n≠v.n) (hj0:j≠0) (x y:Int) (hp:Zt x y=true):
 Calls Tryz.prog 98 #[.pointer (some ⟨R.d,0,none⟩),.int .i64 v.n,.int .i64 x,.int .i64 y] w (Zr R L (zY L v.n (λu=>{u with x:=x,y:=y})) last w (.int .i64 0)):=by
 have HR:=zH h;have H:=zH<|zeX ok w h v j hj hne hj0
 have d0:=h.d0;obtain⟨g,cap,hl,hw,hfz,_⟩:=h.sl ok.one;rw[hl] at d0;have hr:=h.row;rw[hl] at hr;obtain⟨c0,c1,c2,c3,c4,c5⟩:=hw j v hj;have hjl:=(List.getElem?_eq_some_iff.1 hj).1;have hjl':(j:Int)<(L.length:Int):=by omega
 have hz:=zH ok.len;have hgd:g≠R.d:=h.ne (p:=.top 1) (q:=.top 0) (show 1<2 by omega) (show 0<2 by omega) (by show R.l.ownBlock=_;rw[hl];rfl) rfl (by simp);have HP:Hid (Zr R L (zY L v.n (λu=>{u with x:=x,y:=y})) last w (.int .i64 0) (.returned (.int .i64 0)) ((w.setCell ⟨g,j*6+2,none⟩ (.int .i64 x)).setCell ⟨g,j*6+3,none⟩ (.int .i64 y))):=by
  refine h.setRow ok hj hl (λu=>{u with x:=x,y:=y}) (λ_=>rfl) (λ_=>⟨rfl,rfl,rfl⟩) ?_ (((zd.refl (λi=>i=g) w).setCell ⟨g,j*6+2,none⟩ _ (λ_=>rfl)).setCell ⟨g,j*6+3,none⟩ _ (λ_=>rfl)) _;have e1:=zeY R.c L j 2 v {v with x:=x} (.int .i64 x) hj (by omega) rfl;have e2:=zeY R.c (L.set j {v with x:=x}) j 3 {v with x:=x} {v with x:=x,y:=y} (.int .i64 y) (by rw[List.getElem?_set_self hjl]) (by omega) rfl;rw[List.set_set] at e2;rw[←e2,←e1];exact zg8 (zg8 hr _ _) _ _
 clear h hr hw hj hne hl;go_in;go_wp2_with (first|(go_at_call 143;refine sM H.out ?_)|(go_at_call 80;refine sM (zbk _ _ _) ?_));go_ret;exact HP.out
end
end
end Go.Proofs.YtjlfibhbfdckpaaGreatDoor
