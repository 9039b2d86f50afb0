import Derived.Test.YtjlfibhbfdckpaaGreatDoorW17
namespace Go.Proofs.YtjlfibhbfdckpaaGreatDoor
set_option maxHeartbeats 64000000
set_option maxRecDepth 100000
section
open Go.RowKit
attribute [local go_sem ↓] Go.wp_at_zero Go.wp_at_succ
section
variable {R:Rm} {L:List Wn} {last:Int}
theorem zn9 (c:Int->Nat) (n:Int) (f:Wn->Wn) (hf:∀u,zbC c (f u)=zbC c u):ZE c (zY L n f)=ZE c L:=by
 unfold ZE zY;rw[List.flatMap_map];congr 1;funext u;show zbC c (if u.n=n then f u else u)=zbC c u;split
 ·exact hf u
 ·rfl
def Rm.setG (R:Rm) (n:Int) (g cap:Nat):Rm:={R with g:=Zo R.g n g,cap:=Zo R.cap n cap}
theorem ziW {n:Int} {g cap:Nat} {p:Pl} (hp:p≠.win n 1) (hk:∀m k,p=.win m k->k<2):(R.setG n g cap).blk p=R.blk p:=by
 cases p with
 |top k=>cases k<;>rfl
 |win m k=>
  have:=hk m k rfl;match k,this with
  |0,_=>rfl
  |1,_=>
   show some (Zo R.g n g m)=some (R.g m);rw[zn _ _ (λe=>hp (by rw[e]))]
theorem ztI {p:Pl} (h:p.okR L):∀m k,p=.win m k->k<2:=by
 rintro m k rfl;exact h.1
theorem Zq.setG {w w':World} (h:Zq w R L last) (ok:ZK L last) {v:Wn} (hv:v∈L) (W' H' g' cap':Nat) (G':Nat->Nat->zk) (hwf:Wf W' H' G') (hc:Zp w' (R.c v.n) g' cap' W' H' (H'*W') G')
 (hk:zd (λi=>i=R.c v.n\/i=R.g v.n) w w') (hg:g'=R.g v.n\/w.heap.size<=g') (r:Value):Zr R L (zY L v.n (λu=>{u with W:=W',H:=H',G:=G'})) last w r (.returned r) w':=by
 obtain⟨rk,K,T⟩:=ok.tree;have hok:=zno (L:=L) (n:=v.n) (f:=λu=>{u with W:=W',H:=H',G:=G'}) (λu _ e=>e);have kp:∀(p:Pl) (i:Nat),p.okR L->R.blk p=some i->p≠.win v.n 0->p≠.win v.n 1->w'.heap[i]?=w.heap[i]?:=λp i hp e n1 n2=>hk.block i (h.lt ⟨p,hp,e⟩) (by
  rintro(e'|e')
  ·exact h.ne (p:=p) (q:=.win v.n 0) hp ⟨by omega,v,hv,rfl⟩ e rfl n1 e'
  ·exact h.ne (p:=p) (q:=.win v.n 1) hp ⟨by omega,v,hv,rfl⟩ e rfl n2 e')
 have hb1:(R.setG v.n g' cap').blk (.win v.n 1)=some g':=by show some (Zo R.g v.n g' v.n)=_;rw[zD]
 have hown:∀i,(R.setG v.n g' cap').own (zY L v.n (λu=>{u with W:=W',H:=H',G:=G'})) i->R.own L i\/w.heap.size<=i:=λi ⟨p,hp,e⟩=>by
  have hp':=(hok p).1 hp;by_cases e1:p=.win v.n 1
  ·subst e1;rw[hb1] at e;obtain rfl:g'=i:=by simpa using e
   rcases hg with rfl|hg
   ·exact .inl (zfm R hv)
   ·exact .inr hg
  ·exact .inl ⟨p,hp',by rw[←ziW e1 (ztI hp')];exact e⟩
 have h0:=h.two _ (zbp R L);have h1:=h.lt (zbp R L);refine⟨R.setG v.n g' cap',rfl,⟨(kp (.top 0) _ (show 0<2 by omega) rfl (by simp) (by simp)).trans h.blk,?_,?_,?_,?_,?_⟩,rfl,hk.mono (λi e=>by rcases e with rfl|rfl;exact zmc R hv;exact zfm R hv),hown⟩
 ·show w'.ownsRow _ _ _ R.l _ (ZE R.c _);rw[zn9 R.c v.n (λu=>{u with W:=W',H:=H',G:=G'}) (λ_=>rfl),show(zY L v.n (λu=>{u with W:=W',H:=H',G:=G'})).length=L.length by simp[zY]];exact zx h.row (λi hi=>kp (.top 1) i (show 1<2 by omega) hi (by simp) (by simp))
 ·intro u hu;show Zp w' (R.c u.n) (Zo R.g v.n g' u.n) (Zo R.cap v.n cap' u.n) u.W u.H (u.H*u.W) u.G;rcases zfE hv rfl u hu T.nd with rfl|⟨huL,hne⟩
  ·show Zp w' (R.c v.n) (Zo R.g v.n g' v.n) (Zo R.cap v.n cap' v.n) W' H' (H'*W') G';rw[zD,zD];exact hc
  ·rw[zn _ _ hne,zn _ _ hne];have hne':∀k j,(Pl.win u.n k)≠.win v.n j:=λk j e=>by injection e with e1;exact hne e1
   exact(h.win u huL).same (kp (.win u.n 0) _ ⟨by omega,u,huL,rfl⟩ rfl (hne' _ _) (hne' _ _)) (kp (.win u.n 1) _ ⟨by omega,u,huL,rfl⟩ rfl (hne' _ _) (hne' _ _))
 ·intro u hu;rcases zfE hv rfl u hu T.nd with rfl|⟨huL,hne⟩
  ·exact hwf
  ·exact h.wf u huL
 ·intro p q i hp hq e1 e2;have hp':=(hok p).1 hp;have hq':=(hok q).1 hq;have old:∀p:Pl,p.okR L->p≠.win v.n 1->(R.setG v.n g' cap').blk p=R.blk p:=λp hp hn=>ziW hn (ztI hp);by_cases c1:p=.win v.n 1
  ·by_cases c2:q=.win v.n 1
   ·rw[c1,c2]
   ·rw[c1,hb1] at e1;obtain rfl:g'=i:=by simpa using e1
    rw[old q hq' c2] at e2;rcases hg with rfl|hg
    ·rw[c1];exact h.inj _ _ _ ⟨by omega,v,hv,rfl⟩ hq' rfl e2
    ·have:=h.lt ⟨q,hq',e2⟩;omega
  ·by_cases c2:q=.win v.n 1
   ·rw[c2,hb1] at e2;obtain rfl:g'=i:=by simpa using e2
    rw[old p hp' c1] at e1;rcases hg with rfl|hg
    ·rw[c2];exact h.inj _ _ _ hp' ⟨by omega,v,hv,rfl⟩ e1 rfl
    ·have:=h.lt ⟨p,hp',e1⟩;omega
   ·rw[old p hp' c1] at e1;rw[old q hq' c2] at e2;exact h.inj p q i hp' hq' e1 e2
 ·intro i hi;rcases hown i hi with e|e
  ·exact h.two i e
  ·omega
theorem zjN (ok:ZK L last) {v:Wn} (hv:v∈L) {G:Nat->Nat->zk}:zY L v.n (λu=>{u with W:=v.W,H:=v.H,G:=G})=zY L v.n (λu=>{u with G:=G}):=by
 obtain⟨rk,K,T⟩:=ok.tree;unfold zY;refine List.map_congr_left λu hu=>?_;by_cases e:u.n=v.n
 ·obtain rfl:=zak T.nd hu hv e;rfl
 ·rw[if_neg e,if_neg e]
theorem zsn (ok:ZK L last) (w:World) (h:Zq w R L last) (v:Wn) (j:Nat) (hj:L[j]?=some v) (hne:∀i u,i<j->L[i]?=some u->u.n≠v.n) (hj0:j≠0) (W' H':Nat) (hs:ZC W' H'=true):
 Calls Tryz.prog 99 #[.pointer (some ⟨R.d,0,none⟩),.int .i64 v.n,.int .i64 W',.int .i64 H'] w (Zr R L (zY L v.n (λu=>{u with W:=W',H:=H',G:=ZJ v.W v.H W' v.G})) last w (.int .i64 0)):=by
 have HR:=zH h;have hv:=List.mem_of_getElem? hj;have H:=zH<|zeX ok w h v j hj hne hj0
 have d0:=h.d0;obtain⟨g,cap,hl,hw,hfz,_⟩:=h.sl ok.one;rw[hl] at d0;obtain⟨c0,c1,c2,c3,c4,c5⟩:=hw j v hj;have hjl:=(List.getElem?_eq_some_iff.1 hj).1;have hjl':(j:Int)<(L.length:Int):=by omega
 have hz:=Zs.1 hs;clear h hw hj hne hl;go_in;go_wp2_with (first|(go_at_call 143;refine sM H.out ?_)|(go_at_call 73;refine sM (zbv _ _ _) ?_));go_at_call 90;refine(zhj (R.c v.n) (R.g v.n) (R.cap v.n) v.W v.H _ W' H' v.G _ (HR.out.win v hv) (HR.out.wf v hv) (by omega) (by omega) (by omega) (by omega)).mono ?_;rintro e wa ⟨g',cap',rfl,C1,K1,hg⟩;have HP:Hid (Zr R L (zY L v.n (λu=>{u with W:=W',H:=H',G:=ZJ v.W v.H W' v.G})) last w (.int .i64 0) (.returned (.int .i64 0)) wa):=HR.out.setG ok hv W' H' g' cap' _ (HR.out.wf v hv).sized C1 (K1.mono (λi e=>.inl e)) (.inr hg) _;clear C1 K1 hg HR;go_wp2_with fail;go_ret;exact HP.out
theorem zqb (ok:ZK L last) (w:World) (h:Zq w R L last) (v:Wn) (j:Nat) (hj:L[j]?=some v) (hne:∀i u,i<j->L[i]?=some u->u.n≠v.n) (n:Int):
 Calls Tryz.prog 36 #[.pointer (some ⟨R.d,0,none⟩),.int .i64 v.n,.int .i64 n] w (Zr R L (zY L v.n (λu=>{u with G:=zo 0 ((v.H:Int)-1) n Pn.plain v.G})) last w (.int .i64 0)):=by
 have HR:=zH h;have hv:=List.mem_of_getElem? hj;have H:=zH<|zbq ok w h v j hj hne
 have d0:=h.d0;obtain⟨g,cap,hl,hw,hfz,_⟩:=h.sl ok.one;rw[hl] at d0;obtain⟨c0,c1,c2,c3,c4,c5⟩:=hw j v hj;have hjl:=(List.getElem?_eq_some_iff.1 hj).1;have hjl':(j:Int)<(L.length:Int):=by omega
 have hj1:¬(j:Int)<0:=by omega
 have e1:=(h.win v hv).c1;have h1:=(h.win v hv).h1;have h2:=(h.win v hv).h2;clear h hw hj hne hl;go_in;go_wp2_with (first|(go_at_call 79;refine sM H.out ?_));have hs:=ziC (R.c v.n) (R.g v.n) (R.cap v.n) v.W v.H _ v.G 0 (v.H-1) n Pn.plain w (HR.out.win v hv) (by omega);rw[show((v.H-1:Nat):Int)=(v.H:Int)-1 by omega] at hs;go_at_call 89;refine hs.mono ?_;rintro e wa ⟨g',cap',rfl,C1,K1,hg⟩;have HP:Hid (Zr R L (zY L v.n (λu=>{u with G:=zo 0 ((v.H:Int)-1) n Pn.plain v.G})) last w (.int .i64 0) (.returned (.int .i64 0)) wa):=by
  show Zr _ _ _ _ _ _ _ _;rw[←zjN ok hv];exact HR.out.setG ok hv v.W v.H g' cap' _ ((HR.out.wf v hv).scroll 0 _ n _ (by omega) (by omega)) C1 (K1.mono (λi e=>.inl e)) (.inr hg) _
 clear C1 K1 hg HR hs;go_wp2_with fail;go_ret;exact HP.out
theorem zqc (ok:ZK L last) (w:World) (h:Zq w R L last) (v:Wn) (hj:L[0]?=some v) (W' H':Nat) (hs:ZC W' H'=true):
 Calls Tryz.prog 37 #[.pointer (some ⟨R.d,0,none⟩),.int .i64 W',.int .i64 H'] w (Zr R L (zY L v.n (λu=>{u with W:=W',H:=H',G:=ZJ v.W v.H W' v.G})) last w (.int .i64 0)):=by
 have HR:=zH h;have hv:=List.mem_of_getElem? hj;have d0:=h.d0;obtain⟨g,cap,hl,hw,hfz,_⟩:=h.sl ok.one;rw[hl] at d0;obtain⟨c0,c1,c2,c3,c4,c5⟩:=hw 0 v hj;rw[Nat.zero_mul] at c0 c1 c2 c3 c4 c5;have hjl:=ok.one;have hjl':(0:Int)<(L.length:Int):=by omega
 have hz:=Zs.1 hs;clear h hw hj hl;go_in;go_wp2_with (first|(go_at_call 73;refine sM (zbv _ _ _) ?_));go_at_call 90;refine(zhj (R.c v.n) (R.g v.n) (R.cap v.n) v.W v.H _ W' H' v.G _ (HR.out.win v hv) (HR.out.wf v hv) (by omega) (by omega) (by omega) (by omega)).mono ?_;rintro e wa ⟨g',cap',rfl,C1,K1,hg⟩;have HP:Hid (Zr R L (zY L v.n (λu=>{u with W:=W',H:=H',G:=ZJ v.W v.H W' v.G})) last w (.int .i64 0) (.returned (.int .i64 0)) wa):=HR.out.setG ok hv W' H' g' cap' _ (HR.out.wf v hv).sized C1 (K1.mono (λi e=>.inl e)) (.inr hg) _;clear C1 K1 hg HR;go_wp2_with fail;go_ret;exact HP.out
end
section
variable {R:Rm} {L:List Wn} {last:Int}
theorem zqd (ok:ZK L last) (w:World) (h:Zq w R L last) (n:Int) (b:Bool) (he:zU L n≠0):
 Calls Tryz.prog 101 #[.pointer (some ⟨R.d,0,none⟩),.int .i64 n,.bool b] w λe w'=>e=.returned (.int .i64 (zU L n))/\w'=w:=by
 have H:=zH<|zdE ok w h n he
 clear h;generalize zU L n=er at *;go_in;go_wp2_with (first|(go_at_call 143;refine sM H.out ?_));go_ret;exact⟨rfl,rfl⟩
theorem zoa (w:World) (n:Int) (b:Bool):
 Calls Tryz.prog 101 #[.pointer none,.int .i64 n,.bool b] w λe w'=>e=.returned (.int .i64 1)/\w'=w:=by
 go_in;go_wp2_with (first|(go_at_call 143;refine sM (zc3 _ _) ?_));go_ret;exact⟨rfl,rfl⟩
theorem zqe (ok:ZK L last) (w:World) (h:Zq w R L last) (n:Int) (x y:Int) (he:zU L n≠0):
 Calls Tryz.prog 98 #[.pointer (some ⟨R.d,0,none⟩),.int .i64 n,.int .i64 x,.int .i64 y] w λe w'=>e=.returned (.int .i64 (zU L n))/\w'=w:=by
 have H:=zH<|zdE ok w h n he
 clear h;generalize zU L n=er at *;go_in;go_wp2_with (first|(go_at_call 143;refine sM H.out ?_));go_ret;exact⟨rfl,rfl⟩
theorem zob (w:World) (n:Int) (x y:Int):
 Calls Tryz.prog 98 #[.pointer none,.int .i64 n,.int .i64 x,.int .i64 y] w λe w'=>e=.returned (.int .i64 1)/\w'=w:=by
 go_in;go_wp2_with (first|(go_at_call 143;refine sM (zc3 _ _) ?_));go_ret;exact⟨rfl,rfl⟩
theorem zoc (ok:ZK L last) (w:World) (h:Zq w R L last) (n:Int) (x y:Int) (he:zU L n≠0):
 Calls Tryz.prog 99 #[.pointer (some ⟨R.d,0,none⟩),.int .i64 n,.int .i64 x,.int .i64 y] w λe w'=>e=.returned (.int .i64 (zU L n))/\w'=w:=by
 have H:=zH<|zdE ok w h n he
 clear h;generalize zU L n=er at *;go_in;go_wp2_with (first|(go_at_call 143;refine sM H.out ?_));go_ret;exact⟨rfl,rfl⟩
theorem zme (w:World) (n:Int) (x y:Int):
 Calls Tryz.prog 99 #[.pointer none,.int .i64 n,.int .i64 x,.int .i64 y] w λe w'=>e=.returned (.int .i64 1)/\w'=w:=by
 go_in;go_wp2_with (first|(go_at_call 143;refine sM (zc3 _ _) ?_));go_ret;exact⟨rfl,rfl⟩
theorem zod (ok:ZK L last) (w:World) (h:Zq w R L last) (n:Int) (b:Bool) (he:zU L n≠0):
 Calls Tryz.prog 100 #[.pointer (some ⟨R.d,0,none⟩),.int .i64 n,.bool b] w λe w'=>e=.returned (.int .i64 (zU L n))/\w'=w:=by
 have H:=zH<|zdE ok w h n he
 clear h;generalize zU L n=er at *;go_in;go_wp2_with (first|(go_at_call 143;refine sM H.out ?_));go_ret;exact⟨rfl,rfl⟩
theorem zmf (w:World) (n:Int) (b:Bool):
 Calls Tryz.prog 100 #[.pointer none,.int .i64 n,.bool b] w λe w'=>e=.returned (.int .i64 1)/\w'=w:=by
 go_in;go_wp2_with (first|(go_at_call 143;refine sM (zc3 _ _) ?_));go_ret;exact⟨rfl,rfl⟩
theorem zmg (ok:ZK L last) (w:World) (h:Zq w R L last) (n:Int)  (he:zU L n≠0):
 Calls Tryz.prog 97 #[.pointer (some ⟨R.d,0,none⟩),.int .i64 n] w λe w'=>e=.returned (.int .i64 (zU L n))/\w'=w:=by
 have H:=zH<|zdE ok w h n he
 clear h;generalize zU L n=er at *;go_in;go_wp2_with (first|(go_at_call 143;refine sM H.out ?_));go_ret;exact⟨rfl,rfl⟩
theorem zkJ (w:World) (n:Int)  :
 Calls Tryz.prog 97 #[.pointer none,.int .i64 n] w λe w'=>e=.returned (.int .i64 1)/\w'=w:=by
 go_in;go_wp2_with (first|(go_at_call 143;refine sM (zc3 _ _) ?_));go_ret;exact⟨rfl,rfl⟩
theorem zoe (ok:ZK L last) (w:World) (h:Zq w R L last) (v:Wn) (j:Nat) (hj:L[j]?=some v) (hne:∀i u,i<j->L[i]?=some u->u.n≠v.n) (hj0:j≠0) (x y:Int) (hp:Zt x y=false):
 Calls Tryz.prog 98 #[.pointer (some ⟨R.d,0,none⟩),.int .i64 v.n,.int .i64 x,.int .i64 y] w λe w'=>e=.returned (.int .i64 4)/\w'=w:=by
 have H:=zH<|zeX ok w h v j hj hne hj0
 clear h hj hne;go_in;go_wp2_with (first|(go_at_call 143;refine sM H.out ?_)|(go_at_call 80;refine sM (zbk _ _ _) ?_));go_ret;exact⟨rfl,rfl⟩
theorem zmh (ok:ZK L last) (w:World) (h:Zq w R L last) (v:Wn) (j:Nat) (hj:L[j]?=some v) (hne:∀i u,i<j->L[i]?=some u->u.n≠v.n) (hj0:j≠0) (x y:Int) (hp:ZC x y=false):
 Calls Tryz.prog 99 #[.pointer (some ⟨R.d,0,none⟩),.int .i64 v.n,.int .i64 x,.int .i64 y] w λe w'=>e=.returned (.int .i64 3)/\w'=w:=by
 have H:=zH<|zeX ok w h v j hj hne hj0
 clear h hj hne;go_in;go_wp2_with (first|(go_at_call 143;refine sM H.out ?_)|(go_at_call 73;refine sM (zbv _ _ _) ?_));go_ret;exact⟨rfl,rfl⟩
theorem zmi (ok:ZK L last) (w:World) (h:Zq w R L last) (n k:Int) (hn:zch L n=false):
 Calls Tryz.prog 36 #[.pointer (some ⟨R.d,0,none⟩),.int .i64 n,.int .i64 k] w λe w'=>e=.returned (.int .i64 1)/\w'=w:=by
 have H:=zH<|zez ok w h n hn
 clear h;go_in;go_wp2_with (first|(go_at_call 79;refine sM H.out ?_));go_ret;exact⟨rfl,rfl⟩
theorem zkK (w:World) (n k:Int):
 Calls Tryz.prog 36 #[.pointer none,.int .i64 n,.int .i64 k] w λe w'=>e=.returned (.int .i64 1)/\w'=w:=by
 go_in;go_wp2_with (first|(go_at_call 79;refine sM (zeW _ _) ?_));go_ret;exact⟨rfl,rfl⟩
theorem zmj (w:World) (d:Nat) (x y:Int) (hs:ZC x y=false):
 Calls Tryz.prog 37 #[.pointer (some ⟨d,0,none⟩),.int .i64 x,.int .i64 y] w λe w'=>e=.returned (.int .i64 3)/\w'=w:=by
 go_in;go_wp2_with (first|(go_at_call 73;refine sM (zbv _ _ _) ?_));go_ret;exact⟨rfl,rfl⟩
theorem zkL (w:World) (x y:Int):
 Calls Tryz.prog 37 #[.pointer none,.int .i64 x,.int .i64 y] w λe w'=>e=.returned (.int .i64 1)/\w'=w:=by
 go_in;go_wp2_with fail;go_ret;exact⟨rfl,rfl⟩
end
theorem zof {W H:Nat} {G:Nat->Nat->zk} (hw:Wf W H G) (x0 x1:Int) (y:Nat) (p:Pn):ZX W H (zaH W x0 x1 y p G) (wrt G (rg x0 x1 y) (λ_ _=>blk p)):=by
 unfold zaH;refine zbm hw (λa b ha hb=>?_) (λ_ _ _ _ _=>rfl);rw[Bool.eq_iff_iff,zjt];simp[ha,and_assoc]
section
variable {R:Rm} {L:List Wn} {last:Int}
theorem zuh (ok:ZK L last) (w:World) (h:Zq w R L last) (v:Wn) (j:Nat) (hj:L[j]?=some v) (hne:∀i u,i<j->L[i]?=some u->u.n≠v.n) (x y ww hh:Int) (p:Pn) (hpl:Zt x y=true) (hrc:zef ww hh=true) (hpn:zdA p=true):
 Calls Tryz.prog 34 #[.pointer (some ⟨R.d,0,none⟩),.int .i64 v.n,.int .i64 x,.int .i64 y,.int .i64 ww,.int .i64 hh,p.agg] w (Zr R L (zY L v.n (λu=>{u with G:=zaY v.W x y ww hh p v.G v.H})) last w (.int .i64 0)):=by
 have hv:=List.mem_of_getElem? hj;have hb1:Below w.heap.size w (w.alloc (.cells #[.int .i64 p.f,.int .i64 p.b,.bool p.bo,.bool p.un,.bool p.re] 33)):=(Below.refl _ _).alloc (Nat.le_refl _) _;have HRa:=zH<|h.below hb1
 have P1:=ZO w p 33;have H:=zH<|zbq ok _ HRa.out v j hj hne
 obtain⟨p0,p1,p2,p3,p4⟩:=id P1;have hx:=zbH.1 hpl;have hr:=ziQ.1 hrc;have hr1:Wd.inB ww 0 1000=true:=by simp[Wd.inB];omega
 have hr2:Wd.inB hh 0 1000=true:=by simp[Wd.inB];omega
 have hjl:=(List.getElem?_eq_some_iff.1 hj).1;have hjl':(j:Int)<(L.length:Int):=by omega
 have hj1:¬(j:Int)<0:=by omega
 have lg:=h.lt (zfm R hv);have h1:=(h.win v hv).h1;have h2:=(h.win v hv).h2;have sx:IntKind.i64.wrap (x+ww)=x+ww:=zm _ (by omega) (by omega);have sy:IntKind.i64.wrap (y+hh)=y+hh:=zm _ (by omega) (by omega);have Hj:=zH hj;clear h hj hne;go_in;go_wp2_with (first|(go_at_call 79;refine sM H.out ?_)|(go_at_call 80;refine sM (zbk _ _ _) ?_)|(go_at_call 86;refine sM (Wd.refBetween _ _ _ _) ?_));go_at_call 81;refine(znn p _).mono ?_;rw[hpn];rintro e wb ⟨rfl,hbb⟩;have HRb:=zH<|HRa.out.below hbb
 have P2:=P1.same (hbb.block _ P1.lt);have K2:=zH<|hb1.trans (hbb.mono hb1.size)
 clear p0 p1 p2 p3 p4 P1 hbb HRa hb1 H;obtain⟨g,cap,hl,hw,hfz,_⟩:=HRb.out.sl ok.one;have d0:=HRb.out.d0;rw[hl] at d0;obtain⟨c0,c1,c2,c3,c4,c5⟩:=hw j v Hj.out;clear hw hl;go_wp2_with fail;go_loopw[21] (λi w'=>∃r:Nat,r<=v.H/\i=.int .i64 r/\Zp w' (R.c v.n) (R.g v.n) (R.cap v.n) v.W v.H (v.H*v.W) (zaY v.W x y ww hh p v.G r)/\zd (λi=>i=R.g v.n) wb w') (λi _=>30-(intOf i).toNat)
 case atStart=>exact⟨0,by omega,rfl,HRb.out.win v hv,zd.refl _ _⟩
 case round=>
  obtain⟨r,hr',rfl,hC,hK⟩:=hrel;have HC:=zH hC;have HK:=zH hK;have e1:=hC.c1;obtain⟨p0,p1,p2,p3,p4⟩:=P2.same (hK.block _ P2.lt (by omega));clear hC hK;by_cases hlt:r<v.H
  ·have hlt':(r:Int)<(v.H:Int):=by omega
   by_cases hin:y<=r/\(r:Int)<y+hh
   ·obtain⟨hi1,hi2⟩:=id hin;have He:Hid (zaY v.W x y ww hh p v.G (r+1)=zaH v.W x (x+ww) r p (zaY v.W x y ww hh p v.G r)):=if_pos hin;clear hin;go_wp2_with fail;go_at_call 87;refine(zkm _ _ _ _ _ _ _ x (x+ww) r p _ HC.out (zey (HRb.out.wf v hv) r) hlt).mono ?_;rintro e wc ⟨rfl,C2,K2'⟩;have HC2:Hid (Zp wc (R.c v.n) (R.g v.n) (R.cap v.n) v.W v.H (v.H*v.W) (zaY v.W x y ww hh p v.G (r+1))):=by
     show Zp _ _ _ _ _ _ _ _;rw[He.out];exact C2.congr (zof (zey (HRb.out.wf v hv) r) _ _ _ _).symm
    have HK2:=zH<|HK.out.trans K2' (λ_ _ h=>h)
    clear C2 K2' HC HK;go_wp2_with fail;go_roundw
    case rel=>exact⟨r+1,by omega,by simp,HC2.out,HK2.out⟩
    case measure=>simp[intOf];omega
   ·have He:Hid (zaY v.W x y ww hh p v.G (r+1)=zaY v.W x y ww hh p v.G r):=if_neg hin;have hcase:¬y<=(r:Int)\/(y<=(r:Int)/\¬(r:Int)<y+hh):=by omega
    clear hin;rcases hcase with hi1|⟨hi1,hi2⟩;all_goals
     go_wp2_with fail;go_roundw
     case rel=>exact⟨r+1,by omega,by simp,by rw[He.out];exact HC.out,HK.out⟩
     case measure=>simp[intOf];omega
  ·obtain rfl:r=v.H:=by omega
   have HP:Hid (Zr R L (zY L v.n (λu=>{u with G:=zaY v.W x y ww hh p v.G v.H})) last w (.int .i64 0) (.returned (.int .i64 0)) wr):=by
    obtain⟨R',e1,D1,t1,k1,o1⟩:=HRb.out.setG ok hv v.W v.H (R.g v.n) (R.cap v.n) _ (zey (HRb.out.wf v hv) v.H) HC.out (HK.out.mono (λi e=>.inr e)) (.inl rfl) (.int .i64 0);rw[zjN ok hv] at D1 o1;exact⟨R',e1,D1,t1,(zd.below _ K2.out).trans k1 (λ_ _ h=>h),λi hi=>(o1 i hi).imp id (λh=>by have:=K2.out.size;omega)⟩
   go_wp2_with fail;go_ret;exact HP.out
end
theorem zmk:(Tryz.prog.info? 107).bind (·.zero)=some (.agg #[.int .i64 0,.int .i64 0,.int .i64 0,.int .i64 0,.bool false,.pointer none]):=by kernel_rfl
theorem zml:(Tryz.prog.info? 107).map (·.size)=some 6:=by kernel_rfl
theorem zkM:(Tryz.prog.info? 107).map (·.bytes)=some 48:=by kernel_rfl
theorem ztJ:∃i:TypeInfo,Tryz.prog.info? 107=some i/\i.zero=some (.agg #[.int .i64 0,.int .i64 0,.int .i64 0,.int .i64 0,.bool false,.pointer none])/\i.size=6/\i.bytes=48:=by
 have h1:=zmk;have h2:=zml;have h3:=zkM;cases h:Tryz.prog.info? 107 with
 |none=>rw[h] at h2;simp at h2
 |some i=>rw[h] at h1 h2 h3;exact⟨i,rfl,by simpa using h1,by simpa using h2,by simpa using h3⟩
abbrev zdF (v:Wn) (c:Nat):Array Value:=#[.int .i64 v.n,.int .i64 v.par,.int .i64 v.x,.int .i64 v.y,.bool v.sh,.pointer (some ⟨c,0,none⟩)]
theorem zar {ops:Array Oper} {rest:List Oper} {o:Oper} {a:Act} {Q:Exit->Act->World->Prop} (w:World) (hgd:o.guard=none) (s x:Operand)
 (ho:o.op=.call {callee:=.builtin .append,args:=#[s,x],argTypes:=#[108,108]}) (base:Nat) (v:Value) (c:Int->Nat) (L:List Wn) (u:Wn) (k:Nat) (hk:L.length=k) (hs:a.eval s=v)
 (hown:w.ownsRow base 107 6 v k (ZE c L)) (b:Nat) (hx:a.eval x=.slice (some ⟨b,0,none⟩) 1 1) (hb:w.heap[b]?=some (.cells (zdF u (c u.n)) 107)) (hL:k<=1000) (hbase:base<=w.heap.size)
 (h:∀g cap w',w'.ownsRow base 107 6 (.slice (some ⟨g,0,none⟩) (k+1) cap) (k+1) (ZE c (L ++ [u]))->w.grownBy w' v.ownBlock->(v.ownBlock=some g\/g=w.heap.size)->g<w'.heap.size->wpList Tryz.prog ops Q rest (a.put o.dst (.slice (some ⟨g,0,none⟩) (k+1) cap)) w'):
 wpList Tryz.prog ops Q (o::rest) a w:=by
 obtain⟨ti,i1,i2,i3,i4⟩:=ztJ;refine wpList_append_lies w hgd s x 108 ho base 107 ti _ 6 48 Tryz.underlying108 i1 i2 i3 i4 rfl (by decide) v k (ZE c L) hs hown ⟨b,0,none⟩ 1 1 (zbC c u) hx rfl (World.news_of_block hb) (by simp[zbC,Value.oneCell']) (by decide) (by unfold maxLen;omega) (by omega) hbase w.heap.size rfl ?_;intro g cap w' h1 h2 h3 h4;rw[←ziT c,←zfG] at h1;exact h g cap w' h1 h2 h3 h4
theorem zgV {ops:Array Oper} {o:Oper} {a:Act} {K:Act->World->Prop} {Q:Exit->Act->World->Prop} {E:Prop} (w:World) (hgd:o.guard=none) (s x:Operand)
 (ho:o.op=.call {callee:=.builtin .append,args:=#[s,x],argTypes:=#[108,108]}) (base:Nat) (v:Value) (c:Int->Nat) (L:List Wn) (u:Wn) (k:Nat) (hk:L.length=k) (hs:a.eval s=v)
 (hown:w.ownsRow base 107 6 v k (ZE c L)) (b:Nat) (hx:a.eval x=.slice (some ⟨b,0,none⟩) 1 1) (hb:w.heap[b]?=some (.cells (zdF u (c u.n)) 107)) (hL:k<=1000) (hbase:base<=w.heap.size)
 (h:∀g cap w',w'.ownsRow base 107 6 (.slice (some ⟨g,0,none⟩) (k+1) cap) (k+1) (ZE c (L ++ [u]))->w.grownBy w' v.ownBlock->(v.ownBlock=some g\/g=w.heap.size)->g<w'.heap.size->K (a.put o.dst (.slice (some ⟨g,0,none⟩) (k+1) cap)) w'):
 if Region.wanted o (yielded ops a.tmps)=true then Oper.wp Tryz.prog o a w K Q else E:=by
 obtain⟨ti,i1,i2,i3,i4⟩:=ztJ;refine step_append_lies w hgd s x 108 ho base 107 ti _ 6 48 Tryz.underlying108 i1 i2 i3 i4 rfl (by decide) v k (ZE c L) hs hown ⟨b,0,none⟩ 1 1 (zbC c u) hx rfl (World.news_of_block hb) (by simp[zbC,Value.oneCell']) (by decide) (by unfold maxLen;omega) (by omega) hbase w.heap.size rfl ?_;intro g cap w' h1 h2 h3 h4;rw[←ziT c,←zfG] at h1;exact h g cap w' h1 h2 h3 h4
theorem zd3 {w:World} {base base':Nat} {e:TypeId} {size:Nat} {v:Value} {n:Nat} {xs:List Value} (h:w.ownsRow base e size v n xs) (hb:base'<=base):w.ownsRow base' e size v n xs:=by
 refine⟨h.1,?_⟩;rcases h.2 with h0|⟨g,cap,cur,h1,h2,h3⟩
 ·exact .inl h0
 ·exact .inr ⟨g,cap,cur,h1,Nat.le_trans hb h2,h3⟩
theorem Zb {w:World} {b o:Nat} {v:Value} (h:w.cell? ⟨b,o,none⟩=some v) (q:Obj):(w.alloc q).cell? ⟨b,o,none⟩=some v:=
 (((Below.refl w.heap.size w).alloc (Nat.le_refl _) q).cell (p:=⟨b,o,none⟩) (World.block_lt_of_cell? _ _ h)).trans h
section
variable {R:Rm} {L:List Wn} {last:Int}
theorem Zq.relist {w w':World} (h:Zq w R L last) (L':List Wn) (l':Value) (hg:∀i,l'.ownBlock=some i->w.heap.size<=i)
 (hsub:∀u∈L',∃u0∈L,u0.n=u.n/\u0.W=u.W/\u0.H=u.H/\u0.G=u.G)
 (hd:w'.heap[R.d]?=some (.cells #[l',.int .i64 last] 110)) (hr:w'.ownsRow 2 107 6 l' L'.length (ZE R.c L')) (hk:zd (λi=>i=R.d) w w') (r:Value):Zr R L L' last w r (.returned r) w':=by
 have hB:=h.two _ (zbp R L);have hlt:=h.lt (zbp R L);have hold:∀p:Pl,p.okR L'->p≠.top 1->p.okR L/\({R with l:=l'}:Rm).blk p=R.blk p:=by
  intro p hp hne;cases p with
  |top k=>
   have hk2:k<2:=hp;match k,hk2 with
   |0,_=>exact⟨hp,rfl⟩
   |1,_=>exact absurd rfl hne
  |win n k=>
   obtain⟨hk2,u,hu,e⟩:=hp;obtain⟨u0,h0,e0,_⟩:=hsub u hu;refine⟨⟨hk2,u0,h0,e0.trans e⟩,?_⟩;match k,hk2 with
   |0,_=>rfl
   |1,_=>rfl
 have hown:∀i,({R with l:=l'}:Rm).own L' i->R.own L i\/w.heap.size<=i:=λi ⟨p,hp,e⟩=>by
  by_cases e1:p=.top 1
  ·subst e1;exact .inr (hg i e)
  ·obtain⟨a,b⟩:=hold p hp e1;exact .inl ⟨p,a,by rw[←b];exact e⟩
 refine⟨{R with l:=l'},rfl,⟨hd,hr,?_,?_,?_,?_⟩,rfl,hk.mono (λi e=>e ▸ zbp R L),hown⟩
 ·intro u hu;obtain⟨u0,h0,e1,e2,e3,e4⟩:=hsub u hu;have hw:=h.win u0 h0;rw[e1,e2,e3,e4] at hw;have n1:R.c u.n≠R.d:=by rw[←e1];exact h.ne (p:=.win u0.n 0) (q:=.top 0) ⟨by omega,u0,h0,rfl⟩ (show 0<2 by omega) rfl rfl (by simp)
  have n2:R.g u.n≠R.d:=by rw[←e1];exact h.ne (p:=.win u0.n 1) (q:=.top 0) ⟨by omega,u0,h0,rfl⟩ (show 0<2 by omega) rfl rfl (by simp)
  exact hw.same (hk.block _ (by rw[←e1];exact h.lt (zmc R h0)) n1) (hk.block _ (by rw[←e1];exact h.lt (zfm R h0)) n2)
 ·intro u hu;obtain⟨u0,h0,e1,e2,e3,e4⟩:=hsub u hu;have:=h.wf u0 h0;rw[e2,e3,e4] at this;exact this
 ·intro p q i hp hq e1 e2;by_cases c1:p=.top 1
  ·by_cases c2:q=.top 1
   ·rw[c1,c2]
   ·subst c1;obtain⟨a,b⟩:=hold q hq c2;rw[b] at e2;have h1:=h.lt ⟨q,a,e2⟩;have h2:=hg i e1;omega
  ·by_cases c2:q=.top 1
   ·subst c2;obtain⟨a,b⟩:=hold p hp c1;rw[b] at e1;have h1:=h.lt ⟨p,a,e1⟩;have h2:=hg i e2;omega
   ·obtain⟨a,b⟩:=hold p hp c1;obtain⟨a',b'⟩:=hold q hq c2;rw[b] at e1;rw[b'] at e2;exact h.inj p q i a a' e1 e2
 ·intro i hi;rcases hown i hi with e|e
  ·exact h.two i e
  ·omega
theorem zvG (h1:1<=L.length) (h16:L.length<=16) (w:World) (h:Zq w R L last) (v:Wn) (j:Nat) (hj:L[j]?=some v) (hne:∀i u,i<j->L[i]?=some u->u.n≠v.n):
 Calls Tryz.prog 79 #[.pointer (some ⟨R.d,0,none⟩),.int .i64 v.n] w λe w'=>e=.returned (.int .i64 j)/\w'=w:=by
 have hl:=(List.getElem?_eq_some_iff.1 hj).1;have:=zuf h h1 h16 v.n j (by omega) hne (λu hu=>by rw[hj] at hu;injection hu with e;rw[e]);rw[if_pos hl] at this;exact this
theorem zkN (h1:1<=L.length) (h16:L.length<=16) (w:World) (h:Zq w R L last) (v:Wn) (j:Nat) (hj:L[j]?=some v) (hne:∀i u,i<j->L[i]?=some u->u.n≠v.n) (hj0:j≠0):
 Calls Tryz.prog 143 #[.pointer (some ⟨R.d,0,none⟩),.int .i64 v.n] w λe w'=>e=.returned (.tuple #[.int .i64 j,.int .i64 0])/\w'=w:=by
 have H:=zH<|zvG h1 h16 w h v j hj hne
 have h1:¬(j:Int)<0:=by omega
 have h2:¬(j:Int)=0:=by omega
 clear h hj hne;go_in;go_wp2_with (first|(go_at_call 79;refine sM H.out ?_));go_ret2;exact⟨rfl,rfl⟩
theorem zqf (nd:(L.map Wn.n).Nodup) {o:Int} {u:Wn} (hu:u∈L) (hne:u.n≠o):Sub L o u.n↔Sub L o u.par:=by
 constructor
 ·intro h;rcases h.last with e|⟨v,hv,e,hs⟩
  ·exact absurd e hne
  ·obtain rfl:=zak nd hv hu e;exact hs
 ·exact λh=>.step hu h
def rkM (rk:Int->Nat) (v:Value):Nat:=if intOf v<0 then 0 else rk (intOf v)+1
theorem zhB (ok:ZK L last) (w:World) (h:Zq w R L last) (v:Wn) (hv:v∈L) (o:Int) (ho:0<=o):
 Calls Tryz.prog 144 #[.pointer (some ⟨R.d,0,none⟩),.int .i64 v.n,.int .i64 o] w λe w'=>∃b:Bool,e=.returned (.bool b)/\(b=true↔Sub L o v.n)/\Below w.heap.size w w':=by
 obtain⟨rk,K,T⟩:=ok.tree;have HT:=zH T;have HR:=zH h;obtain⟨g,cap,hl,_,hfz,_⟩:=h.sl ok.one;have Hl:=zH hl;have h16:=zH ok.len;clear h hl T;go_in;go_wp2_with fail;go_loopw[1] (λi w'=>∃(m:Int),i=.int .i64 m/\Below w.heap.size w w'/\((m = -1/\¬Sub L o v.n)\/((∃u∈L,u.n=m)/\(Sub L o v.n↔Sub L o m)))) (λi _=>rkM rk i)
 case atStart=>exact⟨v.n,rfl,Below.refl _ _,.inr ⟨⟨v,hv,rfl⟩,Iff.rfl⟩⟩
 case round=>
  obtain⟨m,rfl,hB,⟨rfl,hno⟩|⟨⟨u,hu,rfl⟩,hiff⟩⟩:=hrel
  ·go_wp2_with fail;go_ret;exact⟨false,rfl,by simp[hno],hB⟩
  ·have h0:=HT.out.pos hu;have Hiff:=zH hiff;clear hiff;by_cases he:u.n=o
   ·subst he;go_wp2_with fail;go_ret;exact⟨true,rfl,by rw[Hiff.out];exact⟨λ_=>.refl,λ_=>rfl⟩,hB⟩
   ·obtain⟨j,hj,hne,_⟩:=zfk HT.out.nd hu;have hRr:=HR.out.below hB;obtain⟨g',cap',hl',hw',_,_⟩:=hRr.sl ok.one;obtain⟨rfl,rfl⟩:g=g'/\cap=cap':=by have:=Hl.out.symm.trans hl';simpa using this
    have d0:=hRr.d0;rw[hl'] at d0;obtain⟨c0,c1,c2,c3,c4,c5⟩:=hw' j u hj;have hjl:=(List.getElem?_eq_some_iff.1 hj).1;have hjl':(j:Int)<(L.length:Int):=by omega
    have H:Hid (Calls Tryz.prog 79 #[.pointer (some ⟨R.d,0,none⟩),.int .i64 u.n] wr.drew λe w'=>e=.returned (.int .i64 j)/\w'=wr.drew):=zbq ok _ (hRr.drewN 1) u j hj hne;have Hup:=zH<|zqf HT.out.nd hu he
    clear hj hne hRr hw' hl';have hBd:Below w.heap.size w wr.drew:=hB.trans ((Zc wr 1).mono hB.size);have HF:Hid (∃m:Int,Value.int .i64 u.par=.int .i64 m/\Below w.heap.size w wr.drew/\((m = -1/\¬Sub L o v.n)\/((∃u∈L,u.n=m)/\(Sub L o v.n↔Sub L o m)))):=by
     refine⟨u.par,rfl,hBd,?_⟩;rcases HT.out.parNot hu with e|e
     ·refine .inl ⟨e,λhs=>?_⟩;have:=Hup.out.1 (Hiff.out.1 hs);rw[e] at this;have:=(Sub.rank HT.out ho this).2;omega
     ·exact .inr ⟨(HT.out.up u hu e).1,Hiff.out.trans Hup.out⟩
    have Hm:Hid (rkM rk (.int .i64 u.par)<rkM rk (.int .i64 u.n)):=by
     show(if u.par<0 then 0 else rk u.par+1)<(if u.n<0 then 0 else rk u.n+1);rw[if_neg (by omega:¬u.n<0)];rcases HT.out.parNot hu with e|e
     ·rw[if_pos (by omega)];omega
     ·rw[if_neg (by omega)];have:=(HT.out.up u hu e).2;omega
    clear hB hBd;go_wp2_with fail;go_region_with (first|(go_at_call 79;refine H.out.mono ?_;rintro e w' ⟨rfl,hw'⟩;subst hw'));all_goals
     go_simp
     refine⟨?_,Hm.out⟩
     (repeat apply Exists.intro)
     exact⟨HF.out,rfl⟩
end
section
variable {R:Rm} {L:List Wn} {last:Int}
theorem zmm (ok:ZK L last) (w:World) (h:Zq w R L last) (n x y W H:Int) (he:zdj L n x y W H≠0):
 Calls Tryz.prog 96 #[.pointer (some ⟨R.d,0,none⟩),.int .i64 n,.int .i64 x,.int .i64 y,.int .i64 W,.int .i64 H] w λe w'=>e=.returned (.tuple #[.int .i64 0,.int .i64 (zdj L n x y W H)])/\w'=w:=by
 have d0:=h.d0;obtain⟨g,cap,hl,hw,hfz,_⟩:=h.sl ok.one;rw[hl] at d0;clear hw hl hfz;unfold zdj at he ⊢;cases hn:zch L n with
 |false=>
  rw[if_pos rfl];have H1:=zH<|zez ok w h n hn
  clear h he hn;go_in;go_wp2_with (first|(go_at_call 79;refine sM H1.out ?_));go_ret2;exact⟨rfl,rfl⟩
 |true=>
  rw[hn,if_neg (by simp)] at he;rw[if_neg (by simp)];rcases zgG ok n with⟨v,hv,rfl,j,hjl,hj,hne,_,h0⟩|hn'
  ·have H1:=zH<|zbq ok w h v j hj hne
   have hj1:¬(j:Int)<0:=by omega
   clear h hj hne h0;cases hp:Zt x y with
   |false=>
    rw[if_pos rfl];clear he;go_in;go_wp2_with (first|(go_at_call 79;refine sM H1.out ?_)|(go_at_call 80;refine sM (zbk _ _ _) ?_));go_ret2;exact⟨rfl,rfl⟩
   |true=>
    rw[hp,if_neg (by simp)] at he;rw[if_neg (by simp)];cases hs:ZC W H with
    |false=>
     rw[if_pos rfl];clear he;go_in;go_wp2_with (first|(go_at_call 79;refine sM H1.out ?_)|(go_at_call 80;refine sM (zbk _ _ _) ?_)|(go_at_call 73;refine sM (zbv _ _ _) ?_));go_ret2;exact⟨rfl,rfl⟩
    |true=>
     rw[hs,if_neg (by simp)] at he;rw[if_neg (by simp)];by_cases h16:16<=L.length
     ·rw[if_pos h16];have h16':(16:Int)<=(L.length:Int):=by omega
      clear he;go_in;go_wp2_with (first|(go_at_call 79;refine sM H1.out ?_)|(go_at_call 80;refine sM (zbk _ _ _) ?_)|(go_at_call 73;refine sM (zbv _ _ _) ?_));go_ret2;exact⟨rfl,rfl⟩
     ·rw[if_neg h16] at he;exact absurd rfl he
  ·rw[hn] at hn';simp at hn'
theorem zkO (w:World) (n x y W H:Int):
 Calls Tryz.prog 96 #[.pointer none,.int .i64 n,.int .i64 x,.int .i64 y,.int .i64 W,.int .i64 H] w λe w'=>e=.returned (.tuple #[.int .i64 0,.int .i64 1])/\w'=w:=by
 go_in;go_wp2_with (first|(go_at_call 79;refine sM (zeW _ _) ?_));go_ret2;exact⟨rfl,rfl⟩
theorem zog (w:World) (n m:Int):
 Calls Tryz.prog 102 #[.pointer none,.int .i64 n,.int .i64 m] w λe w'=>e=.returned (.int .i64 1)/\w'=w:=by
 go_in;go_wp2_with (first|(go_at_call 79;refine sM (zeW _ _) ?_));go_ret;exact⟨rfl,rfl⟩
theorem zmn (ok:ZK L last) (w:World) (h:Zq w R L last) (n m:Int) (hm:zch L m=false):
 Calls Tryz.prog 102 #[.pointer (some ⟨R.d,0,none⟩),.int .i64 n,.int .i64 m] w λe w'=>e=.returned (.int .i64 1)/\w'=w:=by
 have H2:=zH<|zez ok w h m hm
 rcases zgG ok n with⟨v,hv,rfl,j,hjl,hj,hne,_,h0⟩|hn
 ·have H1:=zH<|zbq ok w h v j hj hne
  have hj1:¬(j:Int)<0:=by omega
  clear h hj hne h0;go_in;go_wp2_with fail;go_at_call 79;refine H1.out.mono ?_;rintro e w' ⟨rfl,hw'⟩;replace hw':=hw'.symm;subst hw';go_wp2_with (first|(go_at_call 79;refine sM H2.out ?_));go_ret;exact⟨rfl,rfl⟩
 ·have H1:=zH<|zez ok w h n hn
  clear h;go_in;go_wp2_with fail;go_at_call 79;refine H1.out.mono ?_;rintro e w' ⟨rfl,hw'⟩;replace hw':=hw'.symm;subst hw';go_wp2_with (first|(go_at_call 79;refine sM H2.out ?_));go_ret;exact⟨rfl,rfl⟩
theorem zqg (ok:ZK L last) (w:World) (h:Zq w R L last) (n:Int) (q:Wn) (k:Nat) (hk:L[k]?=some q) (hnk:∀i u,i<k->L[i]?=some u->u.n≠q.n) (he:zU L n≠0):
 Calls Tryz.prog 102 #[.pointer (some ⟨R.d,0,none⟩),.int .i64 n,.int .i64 q.n] w λe w'=>e=.returned (.int .i64 (zU L n))/\w'=w:=by
 have H2:=zH<|zbq ok w h q k hk hnk
 have hk1:¬(k:Int)<0:=by omega
 clear hk hnk;unfold zU at he ⊢;rcases zgG ok n with⟨v,hv,rfl,j,hjl,hj,hne,_,h0⟩|hn
 ·have hh:=zaX.2 ⟨v,hv,rfl⟩;rw[if_neg (by simp[hh])] at he ⊢;by_cases e0:v.n=0
  ·rw[if_pos e0];obtain rfl:=h0.2 e0;have H1:Hid (Calls Tryz.prog 79 #[.pointer (some ⟨R.d,0,none⟩),.int .i64 v.n] w λe w'=>e=.returned (.int .i64 0)/\w'=w):=zbq ok w h v 0 hj hne;clear h hj hne h0 he e0;go_in;go_wp2_with fail;go_at_call 79;refine H1.out.mono ?_;rintro e w' ⟨rfl,hw'⟩;replace hw':=hw'.symm;subst hw';go_wp2_with (first|(go_at_call 79;refine sM H2.out ?_));go_ret;exact⟨rfl,rfl⟩
  ·rw[if_neg e0] at he;omega
 ·rw[if_pos hn];have H1:=zH<|zez ok w h n hn
  clear h he;go_in;go_wp2_with fail;go_at_call 79;refine H1.out.mono ?_;rintro e w' ⟨rfl,hw'⟩;replace hw':=hw'.symm;subst hw';go_wp2_with (first|(go_at_call 79;refine sM H2.out ?_));go_ret;exact⟨rfl,rfl⟩
theorem zoh (ok:ZK L last) (w:World) (h:Zq w R L last) (n x y:Int) (b:ByteArray) (p:Pn) (he:zex L n x y b p≠0):
 Calls Tryz.prog 32 #[.pointer (some ⟨R.d,0,none⟩),.int .i64 n,.int .i64 x,.int .i64 y,.string b,p.agg] w λe w'=>e=.returned (.int .i64 (zex L n x y b p))/\Below w.heap.size w w':=by
 have hb1:Below w.heap.size w (w.alloc (.cells #[.int .i64 p.f,.int .i64 p.b,.bool p.bo,.bool p.un,.bool p.re] 33)):=(Below.refl _ _).alloc (Nat.le_refl _) _;have hRa:=h.below hb1;clear h;unfold zex at he ⊢;rcases zgG ok n with⟨v,hv,rfl,j,hjl,hj,hne,_,h0⟩|hn
 ·have hh:=zaX.2 ⟨v,hv,rfl⟩;rw[if_neg (by simp[hh])] at he ⊢;have H1:=zH<|zbq ok _ hRa v j hj hne
  have hj1:¬(j:Int)<0:=by omega
  clear hRa hj hne h0 hh;by_cases h2:Zt x y=false
  ·rw[if_pos h2];clear he;all_goals
    go_in;go_wp2_with (first|(go_at_call 79;refine sM H1.out ?_)|(go_at_call 80;refine sM (zbk _ _ _) ?_));go_ret;exact⟨rfl,hb1⟩
  rw[if_neg h2] at he ⊢;have h2p:Zt x y=true:=by simpa using h2
  clear h2;by_cases h2:200<b.size
  ·rw[if_pos h2];have h3':(200:Int)<(b.size:Int):=by omega
   clear he;all_goals
    go_in;go_wp2_with (first|(go_at_call 79;refine sM H1.out ?_)|(go_at_call 80;refine sM (zbk _ _ _) ?_));go_ret;exact⟨rfl,hb1⟩
  rw[if_neg h2] at he ⊢;have h3':¬(200:Int)<(b.size:Int):=by omega
  clear h2;by_cases h4:zdA p=false
  ·rw[if_pos h4];clear he;obtain⟨p0,p1,p2,p3,p4⟩:=ZO w p 33;go_in;go_wp2_with (first|(go_at_call 79;refine sM H1.out ?_)|(go_at_call 80;refine sM (zbk _ _ _) ?_));go_at_call 81;refine(znn p _).mono ?_;rw[h4];rintro e wb ⟨rfl,hbb⟩;have HB:=zH<|hb1.trans (hbb.mono hb1.size)
   clear p0 p1 p2 p3 p4 hbb;go_wp2_with fail;go_ret;exact⟨rfl,HB.out⟩
  ·rw[if_neg h4] at he;omega
 ·rw[if_pos hn];have H1:=zH<|zez ok _ hRa n hn
  clear hRa he hn;go_in;go_wp2_with (first|(go_at_call 79;refine sM H1.out ?_));go_ret;exact⟨rfl,hb1⟩
theorem zmo (w:World) (n x y:Int) (b:ByteArray) (p:Pn):
 Calls Tryz.prog 32 #[.pointer none,.int .i64 n,.int .i64 x,.int .i64 y,.string b,p.agg] w λe w'=>e=.returned (.int .i64 1)/\Below w.heap.size w w':=by
 go_in;go_wp2_with (first|(go_at_call 79;refine sM (zeW _ _) ?_));go_ret;exact⟨rfl,(Below.refl _ _).alloc (Nat.le_refl _) _⟩
theorem zqh (ok:ZK L last) (w:World) (h:Zq w R L last) (n x y ww hh:Int) (p:Pn) (he:zgD L n x y ww hh p≠0):
 Calls Tryz.prog 34 #[.pointer (some ⟨R.d,0,none⟩),.int .i64 n,.int .i64 x,.int .i64 y,.int .i64 ww,.int .i64 hh,p.agg] w λe w'=>e=.returned (.int .i64 (zgD L n x y ww hh p))/\Below w.heap.size w w':=by
 have hb1:Below w.heap.size w (w.alloc (.cells #[.int .i64 p.f,.int .i64 p.b,.bool p.bo,.bool p.un,.bool p.re] 33)):=(Below.refl _ _).alloc (Nat.le_refl _) _;have hRa:=h.below hb1;clear h;unfold zgD at he ⊢;rcases zgG ok n with⟨v,hv,rfl,j,hjl,hj,hne,_,h0⟩|hn
 ·have hh:=zaX.2 ⟨v,hv,rfl⟩;rw[if_neg (by simp[hh])] at he ⊢;have H1:=zH<|zbq ok _ hRa v j hj hne
  have hj1:¬(j:Int)<0:=by omega
  clear hRa hj hne h0 hh;by_cases h2:Zt x y=false
  ·rw[if_pos h2];clear he;all_goals
    go_in;go_wp2_with (first|(go_at_call 79;refine sM H1.out ?_)|(go_at_call 80;refine sM (zbk _ _ _) ?_));go_ret;exact⟨rfl,hb1⟩
  rw[if_neg h2] at he ⊢;have h2p:Zt x y=true:=by simpa using h2
  clear h2;by_cases h2:zef ww hh=false
  ·rw[if_pos h2];have hrr:(Wd.inB ww 0 1000&&Wd.inB hh 0 1000)=false:=h2;cases hr1:Wd.inB ww 0 1000<;>cases hr2:Wd.inB hh 0 1000<;>simp[hr1,hr2] at hrr;clear he;all_goals
    go_in;go_wp2_with (first|(go_at_call 79;refine sM H1.out ?_)|(go_at_call 80;refine sM (zbk _ _ _) ?_)|(go_at_call 86;refine sM (Wd.refBetween _ _ _ _) ?_));go_ret;exact⟨rfl,hb1⟩
  rw[if_neg h2] at he ⊢;have hrr:(Wd.inB ww 0 1000&&Wd.inB hh 0 1000)=true:=by cases q:zef ww hh;exact absurd q h2;exact q
  obtain⟨hr1,hr2⟩:Wd.inB ww 0 1000=true/\Wd.inB hh 0 1000=true:=by simpa using hrr
  clear h2;by_cases h4:zdA p=false
  ·rw[if_pos h4];clear he;obtain⟨p0,p1,p2,p3,p4⟩:=ZO w p 33;go_in;go_wp2_with (first|(go_at_call 79;refine sM H1.out ?_)|(go_at_call 80;refine sM (zbk _ _ _) ?_)|(go_at_call 86;refine sM (Wd.refBetween _ _ _ _) ?_));go_at_call 81;refine(znn p _).mono ?_;rw[h4];rintro e wb ⟨rfl,hbb⟩;have HB:=zH<|hb1.trans (hbb.mono hb1.size)
   clear p0 p1 p2 p3 p4 hbb;go_wp2_with fail;go_ret;exact⟨rfl,HB.out⟩
  ·rw[if_neg h4] at he;omega
 ·rw[if_pos hn];have H1:=zH<|zez ok _ hRa n hn
  clear hRa he hn;go_in;go_wp2_with (first|(go_at_call 79;refine sM H1.out ?_));go_ret;exact⟨rfl,hb1⟩
theorem zoi (w:World) (n x y ww hh:Int) (p:Pn):
 Calls Tryz.prog 34 #[.pointer none,.int .i64 n,.int .i64 x,.int .i64 y,.int .i64 ww,.int .i64 hh,p.agg] w λe w'=>e=.returned (.int .i64 1)/\Below w.heap.size w w':=by
 go_in;go_wp2_with (first|(go_at_call 79;refine sM (zeW _ _) ?_));go_ret;exact⟨rfl,(Below.refl _ _).alloc (Nat.le_refl _) _⟩
end
end
end Go.Proofs.YtjlfibhbfdckpaaGreatDoor
