import Derived.Test.YtjlfibhbfdckpaaGreatDoorV29
namespace Go.Proofs.YtjlfibhbfdckpaaGreatDoor
set_option maxHeartbeats 64000000
set_option maxRecDepth 100000
section
open Go.RowKit
attribute [local go_sem ↓] Go.wp_at_zero Go.wp_at_succ
structure NwD (w:World) (c:Int->Nat) (u:Value) (M:List Wn) (w':World):Prop where
 row:w'.ownsRow w.heap.size 107 6 u M.length (ZE c M)
 bel:Below w.heap.size w w'
theorem NwD.more {w w1 w2:World} {c:Int->Nat} {u:Value} {M:List Wn} {a:Wn} {g cap:Nat} (h:NwD w c u M w1) (q:Obj) (hr:w2.ownsRow w.heap.size 107 6 (.slice (some ⟨g,0,none⟩) (M.length+1) cap) (M.length+1) (ZE c (M ++ [a]))) (hg:(w1.alloc q).grownBy w2 u.ownBlock):NwD w c (.slice (some ⟨g,0,none⟩) (M.length+1) cap) (M ++ [a]) w2:=
 ⟨by rw[List.length_append];exact hr,(h.bel.alloc h.bel.size _).grown hg (by rw[size_alloc];have:=h.bel.size;omega) (λi hi=>(h.row.lt i hi).1)⟩
theorem NwD.below {w w1 w2:World} {c:Int->Nat} {u:Value} {M:List Wn} (h:NwD w c u M w1) (b:Below w1.heap.size w1 w2):NwD w c u M w2:=
 ⟨zx h.row (λi hi=>b.block _ (h.row.lt i hi).2),h.bel.trans (b.mono h.bel.size)⟩
theorem zqm {L:List Wn} {rk:Int->Nat} {K:Nat} (T:ZR L rk K) {v:Wn} (hv:v∈L) (hv0:v.n≠0):¬Sub L v.n 0:=by
 intro hs;obtain⟨r,hr,h0,hp⟩:=T.rootIn;rw[←h0] at hs;have:=(zqf T.nd hr (by rw[h0];exact λe=>hv0 e.symm)).1 hs;rw[hp] at this;have:=(Sub.rank T (T.pos hv) this).2;omega
section
variable {R:Rm} {L:List Wn} {last:Int}
theorem zqn (ok:ZK L last) (w:World) (h:Zq w R L last) (v:Wn) (j:Nat) (hj:L[j]?=some v) (hne:∀i u,i<j->L[i]?=some u->u.n≠v.n) (hj0:j≠0):
 Calls Tryz.prog 97 #[.pointer (some ⟨R.d,0,none⟩),.int .i64 v.n] w (Zr R L (delL L v.n) last w (.int .i64 0)):=by
 have HR:=zH h;have H:=zH<|zeX ok w h v j hj hne hj0
 obtain⟨g,cap,hl,_,_,_⟩:=h.sl ok.one;have Hl:=zH hl;have h1:=ok.one;have h16:=ok.len;have h2B:=h.two _ (zbp R L);have hdl:=h.lt (zbp R L);obtain⟨rk,K,T⟩:=ok.tree;have hv:=List.mem_of_getElem? hj;have hv0:=T.pos hv;have hvn0:v.n≠0:=λe0=>by
  obtain⟨r,t,e,e1,_⟩:=T.head;exact hne 0 r (by omega) (by rw[e];rfl) (by omega)
 have Hd1:Hid (1<=(delL L v.n).length):=by
  show 1<=_;obtain⟨r,hr,hr0,_⟩:=T.rootIn;exact List.length_pos_of_mem (zbY.2 ⟨hr,by rw[hr0];exact zqm T hv hvn0⟩)
 clear h hl hj hne T;go_in;go_wp2_with (first|(go_at_call 143;refine sM H.out ?_));go_loopw[7,8] (λu i w'=>∃k:Nat,k<=L.length/\i=.int .i64 k/\NwD w R.c u (firstD L v.n k) w') (λ_ i _=>20-(intOf i).toNat)
 case atStart=>exact⟨0,by omega,rfl,⟨World.ownsRow_nil _ _ _ _,Below.refl _ _⟩⟩
 case round=>
  obtain⟨k,hkl,rfl,hN⟩:=hrel;generalize u7=u at *;have HN:=zH hN;have hRr:=HR.out.below hN.bel;have HRr:=zH hRr;obtain⟨g',cap',hl',hw',_,_⟩:=hRr.sl h1;obtain⟨rfl,rfl⟩:g=g'/\cap=cap':=by have:=Hl.out.symm.trans hl';simpa using this
  have d0:=hRr.d0;rw[hl'] at d0;by_cases hlt:k<L.length
  ·have hlt':(k:Int)<(L.length:Int):=by omega
   obtain⟨a,ha⟩:∃a,L[k]?=some a:=⟨_,List.getElem?_eq_getElem hlt⟩;have haL:=List.mem_of_getElem? ha;have Ha:=zH ha;obtain⟨c0,c1,c2,c3,c4,c5⟩:=hw' k a ha;have hfl:=zmb L v.n k;clear hN hRr hw' hl' ha;go_wp2_with fail;go_at_call 144;refine(zhB ok _ HRr.out a haL v.n hv0).mono ?_;rintro e w2 ⟨b,rfl,hb,b2⟩;have Hb:=zH hb;have hN2:=HN.out.below b2;have HN2:=zH hN2;have hR2:=HR.out.below hN2.bel;have z2:=hN2.bel.size;clear HN HRr b2 hb d0 c0 c1 c2 c3 c4 c5;obtain⟨g',cap',hl',hw',_,_⟩:=hR2.sl h1;obtain⟨rfl,rfl⟩:g=g'/\cap=cap':=by have:=Hl.out.symm.trans hl';simpa using this
   have d0:=hR2.d0;rw[hl'] at d0;obtain⟨c0,c1,c2,c3,c4,c5⟩:=hw' k a Ha.out;clear hN2 hR2 hw' hl';cases b with
   |true=>
    have HN3:Hid (NwD w R.c u (firstD L v.n (k+1)) w2):=by
     show NwD _ _ _ _ _;rw[zkD Ha.out (Hb.out.1 rfl)];exact HN2.out
    go_wp2_with fail;go_roundw
    case rel=>exact⟨k+1,by omega,by simp,HN3.out⟩
    case measure=>simp[intOf];omega
   |false=>
    have Hfk:=zH<|zkE Ha.out (λq=>by have:=Hb.out.2 q;simp at this)
    go_wp2_with (first|(at_builtin;go_must (refine zar _ (by rfl) (.tmp 41) (.tmp 49) (by rfl) w.heap.size u R.c (firstD L v.n k) a _ rfl (by rfl) (zx HN2.out.row (λi hi=>Below.heap_alloc _ _ _ (Zw HN2.out.row hi).1)) w2.heap.size (by rfl) (zd5 _ _ _ (by simp)) (by omega) (by simp only[size_alloc];omega) ?_);intro g7 cap7 w7 hr7 hg7 ho7 hl7));have HN3:Hid (NwD w R.c (.slice (some ⟨g7,0,none⟩) ((firstD L v.n k).length+1) cap7) (firstD L v.n (k+1)) w7):=by
     show NwD _ _ _ _ _;rw[Hfk.out];exact HN2.out.more _ hr7 hg7
    clear hr7 hg7 ho7;go_wp2_with fail;go_roundw
    case rel=>exact⟨k+1,by omega,by simp,HN3.out⟩
    case measure=>simp[intOf];omega
  ·have hlt':¬(k:Int)<(L.length:Int):=by omega
   obtain rfl:k=L.length:=by omega
   have HN2:Hid (NwD w R.c u (delL L v.n) wr):=by
    show NwD _ _ _ _ _;rw[←zma];exact hN
   have fzw:=ze ((hN.bel.block _ hdl).trans HR.out.blk);clear hN HN hRr HRr hw' hl';obtain⟨gu,cu,rfl⟩:=zam HN2.out.row Hd1.out;have HP:Hid (Zr R L (delL L v.n) last w (.int .i64 0) (.returned (.int .i64 0)) (wr.setCell ⟨R.d,0,none⟩ (.slice (some ⟨gu,0,none⟩) (delL L v.n).length cu))):=by
    have hkk:zd (λi=>i=R.d) w (wr.setCell ⟨R.d,0,none⟩ (.slice (some ⟨gu,0,none⟩) (delL L v.n).length cu)):=(zd.below (λi=>i=R.d) HN2.out.bel).setCell ⟨R.d,0,none⟩ _ (λ_=>rfl);have hbd:=(HN2.out.bel.block _ hdl).trans HR.out.blk;exact HR.out.relist (delL L v.n) (.slice (some ⟨gu,0,none⟩) (delL L v.n).length cu) (λi hi=>(HN2.out.row.lt i hi).1) (λu hu=>⟨u,(zbY.1 hu).1,rfl,rfl,rfl,rfl⟩) (zg hbd 0 _) (zd3 (zx HN2.out.row (λi hi=>Below.heap_setCell _ _ _ _ (by have:=(HN2.out.row.lt i hi).1;show i≠R.d;omega))) (by omega)) hkk _
   go_wp2_with fail;go_ret;exact HP.out
end
theorem zjQ {L:List Wn} (nd:(L.map Wn.n).Nodup) {i j:Nat} {a b:Wn} (hi:L[i]?=some a) (hj:L[j]?=some b) (h:a.n=b.n):i=j:=by
 have h1:=(List.getElem?_eq_some_iff.1 hi).1;have h2:=(List.getElem?_eq_some_iff.1 hj).1;have:=List.getElem_inj (i:=i) (j:=j) (h₀:=by simpa using h1) (h₁:=by simpa using h2) nd;exact this.1 (by rw[List.getElem_map,List.getElem_map,(List.getElem?_eq_some_iff.1 hi).2,(List.getElem?_eq_some_iff.1 hj).2,h])
theorem zos {p:Int}:∀ {L:List Wn} {j:Nat} {v:Wn},L[j]?=some v->zG (L.set j {v with par:=p}) v.n=zG L v.n:=by
 intro L;induction L with
 |nil=>intro j v h;simp at h
 |cons a t ih=>
  intro j v h;cases j with
  |zero=>
   obtain rfl:a=v:=by simpa using h
   simp[zG]
  |succ j=>
   have:=ih (j:=j) (v:=v) (by simpa using h);unfold zG at this ⊢;rw[List.set_cons_succ,List.filter_cons,List.filter_cons,this]
section
variable {R:Rm} {L:List Wn} {last:Int}
theorem zot (ok:ZK L last) (w:World) (h:Zq w R L last) (v:Wn) (j:Nat) (hj:L[j]?=some v) (_hne:∀i u,i<j->L[i]?=some u->u.n≠v.n) (hj0:j≠0):
 Calls Tryz.prog 100 #[.pointer (some ⟨R.d,0,none⟩),.int .i64 v.n,.bool true] w (Zr R L (zcy L v v.par) last w (.int .i64 0)):=by
 obtain⟨rk,K,T⟩:=ok.tree;exact zhM ok.one ok.len w h v j hj (λi u hi hu e=>hi (zjQ T.nd hu hj e)) hj0
theorem zmr (ok:ZK L last) (w:World) (h:Zq w R L last) (v:Wn) (j:Nat) (hj:L[j]?=some v) (_hne:∀i u,i<j->L[i]?=some u->u.n≠v.n) (hj0:j≠0):
 Calls Tryz.prog 100 #[.pointer (some ⟨R.d,0,none⟩),.int .i64 v.n,.bool false] w (Zr R L (zcK L v) last w (.int .i64 0)):=by
 obtain⟨rk,K,T⟩:=ok.tree;rw[ziR];exact zkR ok.one ok.len w h v j hj (λi u hi hu e=>hi (zjQ T.nd hu hj e)) hj0
theorem zms (ok:ZK L last) (w:World) (h:Zq w R L last) (v q:Wn) (j k:Nat) (hj:L[j]?=some v) (hne:∀i u,i<j->L[i]?=some u->u.n≠v.n) (hj0:j≠0) (hk:L[k]?=some q) (hnk:∀i u,i<k->L[i]?=some u->u.n≠q.n) (hs:Sub L v.n q.n):
 Calls Tryz.prog 102 #[.pointer (some ⟨R.d,0,none⟩),.int .i64 v.n,.int .i64 q.n] w λe w'=>e=.returned (.int .i64 5)/\Below w.heap.size w w':=by
 obtain⟨rk,K,T⟩:=ok.tree;have H1:=zH<|zbq ok w h v j hj hne
 have H2:=zH<|zbq ok w h q k hk hnk
 have HR:=zH h;have hq:=List.mem_of_getElem? hk;have hv0:=T.pos (List.mem_of_getElem? hj);have hj1:¬(j:Int)<0:=by omega
 have hj2:¬(j:Int)=0:=by omega
 have hk1:¬(k:Int)<0:=by omega
 have Hs:=zH hs;clear h hj hne hk hnk T hs;go_in;go_wp2_with fail;go_at_call 79;refine H1.out.mono ?_;rintro e w' ⟨rfl,hw'⟩;replace hw':=hw'.symm;subst hw';go_wp2_with (first|(go_at_call 79;refine sM H2.out ?_));go_at_call 144;refine(zhB ok _ HR.out q hq v.n hv0).mono ?_;rintro e w2 ⟨b,rfl,hb,b2⟩;obtain rfl:=hb.2 Hs.out;clear hb;go_wp2_with fail;go_ret;exact⟨rfl,b2⟩
theorem zuj (ok:ZK L last) (w:World) (h:Zq w R L last) (v q:Wn) (j k:Nat) (hj:L[j]?=some v) (hne:∀i u,i<j->L[i]?=some u->u.n≠v.n) (hj0:j≠0) (hk:L[k]?=some q) (hnk:∀i u,i<k->L[i]?=some u->u.n≠q.n) (hs:¬Sub L v.n q.n):
 Calls Tryz.prog 102 #[.pointer (some ⟨R.d,0,none⟩),.int .i64 v.n,.int .i64 q.n] w (Zr R L (zcy L v q.n) last w (.int .i64 0)):=by
 obtain⟨rk,K,T⟩:=ok.tree;have H1:=zH<|zbq ok w h v j hj hne
 have H2:=zH<|zbq ok w h q k hk hnk
 have HR:=zH h;have hq:=List.mem_of_getElem? hk;have hvL:=List.mem_of_getElem? hj;have hv0:=T.pos hvL;have hj1:¬(j:Int)<0:=by omega
 have hj2:¬(j:Int)=0:=by omega
 have hk1:¬(k:Int)<0:=by omega
 have Hs:=zH hs;have Hj:=zH hj;have Hnd:=zH T.nd;have hjl:=(List.getElem?_eq_some_iff.1 hj).1;have hjl':(j:Int)<(L.length:Int):=by omega
 clear h hj hne hk hnk T hs;go_in;go_wp2_with fail;go_at_call 79;refine H1.out.mono ?_;rintro e w' ⟨rfl,hw'⟩;replace hw':=hw'.symm;subst hw';go_wp2_with (first|(go_at_call 79;refine sM H2.out ?_));go_at_call 144;refine(zhB ok _ HR.out q hq v.n hv0).mono ?_;rintro e w2 ⟨b,rfl,hb,b2⟩;obtain rfl:b=false:=by cases b with|false=>rfl|true=>exact absurd (hb.1 rfl) Hs.out
 have HR2:=zH<|HR.out.below b2
 have HB2:=zH b2;obtain⟨g,cap,hl,hw,hfz,_⟩:=HR2.out.sl ok.one;have d0:=HR2.out.d0;rw[hl] at d0;obtain⟨c0,c1,c2,c3,c4,c5⟩:=hw j v Hj.out;have hr:=HR2.out.row;rw[hl] at hr;have HP1:Hid (Zr R L (zY L v.n (λu=>{u with par:=q.n})) last w2 (.int .i64 0) (.returned (.int .i64 0)) (w2.setCell ⟨g,j*6+1,none⟩ (.int .i64 q.n))):=
  HR2.out.setRow ok Hj.out hl (λu=>{u with par:=q.n}) (λ_=>rfl) (λ_=>⟨rfl,rfl,rfl⟩) (by rw[←zeY R.c L j 1 v _ (.int .i64 q.n) Hj.out (by omega) rfl];exact zg8 hr _ _) ((zd.refl _ _).setCell _ _ (λ_=>rfl)) _
 have Hul:Hid (zY L v.n (λu=>{u with par:=q.n})=L.set j {v with par:=q.n}):=zkI Hnd.out Hj.out _;clear hb b2 hw hl hr HR2;go_wp2_with fail;generalize w2.setCell ⟨g,j*6+1,none⟩ (.int .i64 q.n)=w3 at *;obtain⟨R',_,D1,t1,k1,o1⟩:=HP1.out;rw[Hul.out] at D1 o1;have hl1:1<=(L.set j {v with par:=q.n}).length:=by rw[List.length_set];exact ok.one
 have hl16:(L.set j {v with par:=q.n}).length<=16:=by rw[List.length_set];exact ok.len
 have hgj:(L.set j {v with par:=q.n})[j]?=some {v with par:=q.n}:=by rw[List.getElem?_set_self hjl]
 have hg2:∀i u,i≠j->(L.set j {v with par:=q.n})[i]?=some u->u.n≠v.n:=λi u hi hu e=>by
  rw[List.getElem?_set_ne (λq=>hi q.symm)] at hu;exact hi (zjQ Hnd.out hu Hj.out e)
 have hcall:=zhM (R:=R') hl1 hl16 w3 D1 {v with par:=q.n} j hgj hg2 hj0;rw[t1] at hcall;go_at_call 100;refine hcall.mono ?_;rintro e w4 ⟨R2,rfl,D2,t2,k2,o2⟩;have hfil:zG (L.set j {v with par:=q.n}) v.n=zG L v.n:=zos Hj.out;have HP:Hid (Zr R L (zcy L v q.n) last w (.int .i64 0) (.returned (.int .i64 0)) w4):=by
  refine⟨R2,rfl,?_,t2.trans t1,?_,?_⟩
  ·have:=D2;rw[hfil] at this;exact this
  ·refine((zd.below _ HB2.out).trans k1 (λ_ _ h=>h)).trans k2 (λi hi h=>?_);rcases o1 i h with e|e
   ·exact e
   ·have:=HB2.out.size;omega
  ·intro i hi;have hi':R2.own (zG (L.set j {v with par:=q.n}) v.n ++ [{v with par:=q.n}]) i:=by rw[hfil];exact hi
   have z1:=HB2.out.size;have z2:=k1.size;rcases o2 i hi' with e|e
   ·rcases o1 i e with e|e
    ·exact .inl e
    ·exact .inr (by omega)
   ·exact .inr (by omega)
 clear D2 k2 o2 hcall;go_wp2_with fail;go_ret;exact HP.out
end
end
section
open Go.RowKit
section
variable {L:List Wn} {last:Int}
theorem znm (nd:(L.map Wn.n).Nodup) {o:Int} {u:Wn} (hu:u∈L) (hne:u.n≠o):Sub L o u.n↔Sub L o u.par:=by
 constructor
 ·intro h;rcases h.last with e|⟨v,hv,e,hs⟩
  ·exact absurd e hne
  ·obtain rfl:=zak nd hv hu e;exact hs
 ·exact λh=>.step hu h
theorem zkG (nd:(L.map Wn.n).Nodup) (n:Int):((zG L n).map Wn.n).Nodup:=List.Nodup.sublist (List.Sublist.map _ List.filter_sublist) nd
theorem ziS (nd:(L.map Wn.n).Nodup) {v:Wn} (hv:v∈L):(zG L v.n).length+1=L.length:=by
 obtain⟨j,h1,_,h3⟩:=zfk nd hv;have hl:=(List.getElem?_eq_some_iff.1 h1).1;rw[h3,List.length_eraseIdx,if_pos hl];omega
theorem zhA {r:Wn} {t:List Wn} {n:Int} (h:L=r::t) (hr:r.n≠n):zG L n=r::zG t n:=by
 rw[h];unfold zG;rw[List.filter_cons_of_pos (by simpa using hr)]
theorem zp7 (ok:ZK L last) {v q:Wn} (hv:v∈L) (hv0:v.n≠0) (hq:q∈L) (hns:¬Sub L v.n q.n):ZK (zcy L v q.n) last:=by
 obtain⟨rk,K,T⟩:=ok.tree
 classical
 have mem:∀u,u∈zcy L v q.n->(u∈L/\u.n≠v.n)\/u={v with par:=q.n}:=λu hu=>by
  rcases List.mem_append.1 hu with h|h
  ·exact .inl (Za.1 h)
  ·exact .inr (by simpa using h)
 have hq0:=T.pos hq;refine⟨⟨λm=>if Sub L v.n m then rk m+rk q.n+1 else rk m,K+rk q.n+1,?_,?_,?_,?_⟩,?_,?_,?_⟩
 ·obtain⟨r,t,e,h0,h1,h2⟩:=T.head;refine⟨r,zG t v.n ++ [{v with par:=q.n}],?_,h0,h1,λu hu=>?_⟩
  ·show zG L v.n++_=_;rw[zhA e (by rw[h0];exact λe=>hv0 e.symm)];rfl
  ·rcases List.mem_append.1 hu with hu|hu
   ·exact h2 u (Za.1 hu).1
   ·obtain rfl:u={v with par:=q.n}:=by simpa using hu
    exact⟨by show 1<=v.n;have:=T.pos hv;omega,hq0⟩
 ·show((zG L v.n ++ [{v with par:=q.n}]).map Wn.n).Nodup;rw[List.map_append,List.nodup_append];refine⟨zkG T.nd _,by simp,λa ha b hb e=>?_⟩;obtain⟨u,hu,rfl⟩:=List.mem_map.1 ha;obtain rfl:b=v.n:=by simpa using hb
  exact(Za.1 hu).2 e
 ·intro u hu hp;have hin:∀x,x∈L->∃y∈zcy L v q.n,y.n=x.n:=λx hx=>by
   by_cases e:x.n=v.n
   ·exact⟨{v with par:=q.n},List.mem_append.2 (.inr (by simp)),e.symm⟩
   ·exact⟨x,List.mem_append.2 (.inl (Za.2 ⟨hx,e⟩)),rfl⟩
  rcases mem u hu with⟨huL,hne⟩|rfl
  ·obtain⟨⟨x,hx,hxn⟩,hr⟩:=T.up u huL hp;obtain⟨y,hy,hyn⟩:=hin x hx;refine⟨⟨y,hy,hyn.trans hxn⟩,?_⟩;have:=znm T.nd huL hne;by_cases hs:Sub L v.n u.n
   ·show(if Sub L v.n u.par then _ else _)<(if Sub L v.n u.n then _ else _);rw[if_pos (this.1 hs),if_pos hs];omega
   ·show(if Sub L v.n u.par then _ else _)<(if Sub L v.n u.n then _ else _);rw[if_neg (λh=>hs (this.2 h)),if_neg hs];exact hr
  ·obtain⟨y,hy,hyn⟩:=hin q hq;refine⟨⟨y,hy,hyn⟩,?_⟩;show(if Sub L v.n q.n then rk q.n+rk q.n+1 else rk q.n)<(if Sub L v.n v.n then rk v.n+rk q.n+1 else rk v.n);rw[if_neg hns,if_pos .refl];omega
 ·intro u hu;have key:∀x∈L,(if Sub L v.n x.n then rk x.n+rk q.n+1 else rk x.n)<=K+rk q.n+1:=λx hx=>by
   have:=T.le x hx;split<;>omega
  rcases mem u hu with⟨huL,_⟩|rfl
  ·exact key u huL
  ·exact key v hv
 ·intro u hu;rcases mem u hu with⟨huL,_⟩|rfl
  ·exact ok.le u huL
  ·exact ok.le v hv
 ·show(zG L v.n ++ [_]).length<=16;have:=ziS T.nd hv;have:=ok.len;rw[List.length_append];simp;omega
 ·intro u hu;rcases mem u hu with⟨huL,_⟩|rfl
  ·exact ok.pl u huL
  ·exact ok.pl v hv
theorem zuc (ok:ZK L last) {v q:Wn} (hv:v∈L) (hq:q∈L) (hp:v.par=q.n):¬Sub L v.n q.n:=by
 obtain⟨rk,K,T⟩:=ok.tree;intro hs;have h1:=(Sub.rank T (T.pos hv) hs).1;have h2:=(T.up v hv (by rw[hp];exact T.pos hq)).2;rw[hp] at h2;omega
theorem zud (ok:ZK L last) {v:Wn} (hv:v∈L) (hv0:v.n≠0):ZK (zcK L v) last:=by
 obtain⟨rk,K,T⟩:=ok.tree;obtain⟨r,t,e,h0,h1,h2⟩:=T.head;have hf:=zhA e (by rw[h0];exact λe=>hv0 e.symm);have hb:zcK L v=r::v::zG t v.n:=by unfold zcK;rw[hf]
 have hmem:∀u,u∈zcK L v↔u∈L:=λu=>by
  rw[zkB,Za];constructor
  ·rintro(rfl|⟨h,_⟩)
   ·exact hv
   ·exact h
  ·intro h;by_cases e:u.n=v.n
   ·exact .inl (zak T.nd h hv e)
   ·exact .inr ⟨h,e⟩
 refine⟨⟨rk,K,?_,?_,?_,?_⟩,?_,?_,?_⟩
 ·refine⟨r,v::zG t v.n,hb,h0,h1,λu hu=>?_⟩;rcases List.mem_cons.1 hu with rfl|hu
  ·rw[e] at hv;rcases List.mem_cons.1 hv with rfl|hv
   ·exact absurd h0 hv0
   ·exact h2 u hv
  ·exact h2 u (Za.1 hu).1
 ·rw[hb];have nd:=zkG T.nd v.n;rw[hf] at nd;simp only[List.map_cons,List.nodup_cons,List.mem_cons,List.mem_map] at nd ⊢;refine⟨?_,?_,nd.2⟩
  ·rintro(e|h)
   ·exact hv0 (e.symm.trans h0)
   ·exact nd.1 h
  ·rintro⟨u,hu,e⟩;exact(Za.1 hu).2 e
 ·intro u hu hp;obtain⟨⟨x,hx,hxn⟩,hr⟩:=T.up u ((hmem u).1 hu) hp;exact⟨⟨x,(hmem x).2 hx,hxn⟩,hr⟩
 ·exact λu hu=>T.le u ((hmem u).1 hu)
 ·exact λu hu=>ok.le u ((hmem u).1 hu)
 ·rw[ziR,zhy];have:=ziS T.nd hv;have:=ok.len;omega
 ·exact λu hu=>ok.pl u ((hmem u).1 hu)
theorem zsl (ok:ZK L last) {v:Wn} (hv:v∈L) (hv0:v.n≠0):¬Sub L v.n 0:=by
 obtain⟨rk,K,T⟩:=ok.tree;intro hs;obtain⟨r,hr,h0,hp⟩:=T.rootIn;rw[←h0] at hs;have:=(znm T.nd hr (by rw[h0];exact λe=>hv0 e.symm)).1 hs;rw[hp] at this;have:=(Sub.rank T (T.pos hv) this).2;omega
theorem zue (ok:ZK L last) {v:Wn} (hv:v∈L) (hv0:v.n≠0):ZK (delL L v.n) last:=by
 obtain⟨rk,K,T⟩:=ok.tree;have sub:(delL L v.n).Sublist L:=List.filter_sublist;refine⟨⟨rk,K,?_,?_,?_,?_⟩,?_,?_,?_⟩
 ·obtain⟨r,t,e,h0,h1,h2⟩:=T.head;refine⟨r,t.filter (λu=>!(@decide (Sub L v.n u.n) (Classical.propDecidable _))),?_,h0,h1,λu hu=>h2 u (List.mem_filter.1 hu).1⟩;have hr:r∈delL L v.n:=zbY.2 ⟨by rw[e];exact List.mem_cons_self,by rw[h0];exact zsl ok hv hv0⟩;unfold delL
  conv=>lhs;rw[show L.filter (λu=>!(@decide (Sub L v.n u.n) (Classical.propDecidable _)))=(r::t).filter (λu=>!(@decide (Sub L v.n u.n) (Classical.propDecidable _))) from congrArg (List.filter _) e]
  rw[List.filter_cons_of_pos];simpa using(zbY.1 hr).2
 ·exact List.Nodup.sublist (List.Sublist.map _ sub) T.nd
 ·intro u hu hp;obtain⟨huL,hun⟩:=zbY.1 hu;obtain⟨⟨x,hx,hxn⟩,hr⟩:=T.up u huL hp;refine⟨⟨x,zbY.2 ⟨hx,λhs=>hun (.step huL (by rw[←hxn];exact hs))⟩,hxn⟩,hr⟩
 ·exact λu hu=>T.le u (sub.subset hu)
 ·exact λu hu=>ok.le u (sub.subset hu)
 ·exact Nat.le_trans sub.length_le ok.len
 ·exact λu hu=>ok.pl u (sub.subset hu)
end
end
end Go.Proofs.YtjlfibhbfdckpaaGreatDoor
