import Derived.Test.YtjlfibhbfdckpaaGreatDoorW15
namespace Go.Proofs.YtjlfibhbfdckpaaGreatDoor
set_option maxHeartbeats 64000000
set_option maxRecDepth 100000
section
open Go.RowKit
attribute [local go_sem ↓] Go.wp_at_zero Go.wp_at_succ
theorem zse (v:Wn) (bn cn gn:Nat) (pp:Option Addr) (sv:Value) (ks:List Value) (n:Int) (w:World) (h:Z9 w v bn cn gn pp sv ks):
 Calls Tryz.prog 88 #[.pointer (some ⟨bn,0,none⟩),.int .i64 n] w λe w'=>e=.returned (.tuple #[])/\Zi w' cn gn v.W v.H (v.H*v.W) (zo 0 ((v.H:Int)-1) n Pn.plain v.G)/\zd (λi=>i=gn) w w':=by
 have HV:=zH h;have f5:=h.f5;have h1:=h.gr.h1;have h2:=h.gr.h2;have hs:IntKind.i64.wrap ((v.H:Int)-1)=(v.H:Int)-1:=zm _ (by omega) (by omega);have hd:Zi w.drew cn gn v.W v.H (v.H*v.W) v.G:=h.gr.same rfl rfl;have Hh:=zH<|zbF _ _ _ _ _ _ _ hd
 have Hs:Hid (Calls Tryz.prog 141 #[.pointer (some ⟨cn,0,none⟩),.int .i64 0,.int .i64 ((v.H:Int)-1),.int .i64 n,Pn.plain.agg] w.drew λe w'=>e=.returned (.tuple #[])/\Zi w' cn gn v.W v.H (v.H*v.W) (zo 0 ((v.H:Int)-1) n Pn.plain v.G)/\zd (λi=>i=gn) w w'):=
  (zku cn gn v.W v.H _ v.G 0 ((v.H:Int)-1) n Pn.plain _ hd (by omega) (by omega) (by omega)).mono (λe w' ⟨a,b,c⟩=>⟨a,b,⟨c.os,c.tape,c.output,c.size,c.block⟩⟩)
 clear h hd;go_in;go_wp2_with fail;go_region_with (first|(go_at_call 127;refine Hh.out.mono ?_;rintro e wb ⟨rfl,hwb⟩;subst hwb)|(go_at_call 141;refine Hs.out.mono ?_;rintro e wb ⟨rfl,G2,K2⟩;have HG2:=zH<|G2;clear G2));all_goals
  go_wp2_with fail;go_end0;exact⟨rfl,HG2.out,K2⟩
def zaY (W:Nat) (x y ww hh:Int) (p:Pn) (G:Nat->Nat->zk):Nat->Nat->Nat->zk
 |0=>G
 |j+1=>if y<=j/\(j:Int)<y+hh then zaH W x (x+ww) j p (zaY W x y ww hh p G j) else zaY W x y ww hh p G j
theorem zfl {W:Nat} {x y ww hh:Int} {p:Pn} {G:Nat->Nat->zk} {a:Nat}:∀ {b:Nat},a<=b->(∀j:Nat,a<=j->j<b->¬(y<=j/\(j:Int)<y+hh))->zaY W x y ww hh p G b=zaY W x y ww hh p G a:=by
 intro b;induction b with
 |zero=>
   intro h _;obtain rfl:a=0:=by omega
   rfl
 |succ b ih=>
  intro h hn;by_cases e:a=b+1
  ·rw[e]
  ·have h1:=hn b (by omega) (by omega);show(if _ then _ else _)=_;rw[if_neg h1];exact ih (by omega) (λj hj hb=>hn j hj (by omega))
section
variable {M:Mm} {L:List Wn} {last:Int} {N:Nat} {s:Rs} {t:Pt}
theorem zsf (ok:ZK L last) (w:World) (h:zI w M L last N s t) (v:Wn) (hv:v∈L) (n:Int):
 Calls Tryz.prog 35 #[.pointer (some ⟨M.t 0,0,none⟩),.int .i64 v.n,.int .i64 n] w (zad M L (zY L v.n (λu=>{u with G:=zo 0 ((v.H:Int)-1) n Pn.plain v.G})) last N s t w (.int .i64 0)):=by
 have HD:=zH h;have hf:=M.fnd_in hv;have h1:=(h.win v hv).gr.h1;clear h;go_in;go_wp2_with (first|(go_at_call 75;refine sM (zbj ok _ HD.out _) ?_));go_at_call 88;refine(zse v _ _ _ _ _ _ n _ (HD.out.win v hv)).mono ?_;rintro e wc ⟨rfl,G1,K1⟩;have HP:=zH<|HD.out.setG ok hv _ ((HD.out.win v hv).wf.scroll 0 _ n _ (by omega) (by omega)) G1 K1 (.int .i64 0)
 clear G1 K1 HD;go_wp2_with fail;go_ret;exact HP.out
theorem zn2 (ok:ZK L last) (w:World) (h:zI w M L last N s t) (n k:Int) (hn:zch L n=false):
 Calls Tryz.prog 35 #[.pointer (some ⟨M.t 0,0,none⟩),.int .i64 n,.int .i64 k] w λe w'=>e=.returned (.int .i64 1)/\w'=w:=by
 have HD:=zH h;have hf:=M.fnd_no hn;clear h;go_in;go_wp2_with (first|(go_at_call 75;refine sM (zbj ok _ HD.out _) ?_));go_ret;exact⟨rfl,rfl⟩
end
theorem zey {W H:Nat} {x y ww hh:Int} {p:Pn} {G:Nat->Nat->zk} (h:Wf W H G):∀j,Wf W H (zaY W x y ww hh p G j):=by
 intro j;induction j with
 |zero=>exact h
 |succ j ih=>
  show Wf W H (if _ then _ else _);split
  ·exact ih.wrWhole (λ_ _ _ _ _=>⟨rfl,by show Wd.wd 32=1;decide⟩)
  ·exact ih
theorem zvD (v:Wn) (bn cn gn:Nat) (pp:Option Addr) (sv:Value) (ks:List Value) (x y ww hh:Int) (p:Pn) (w:World) (h:Z9 w v bn cn gn pp sv ks) (hbg:bn≠gn) (hx:-1000<=x/\x<=1000/\-1000<=y/\y<=1000) (hw:0<=ww/\ww<=1000/\0<=hh/\hh<=1000):
 Calls Tryz.prog 85 #[.pointer (some ⟨bn,0,none⟩),.int .i64 x,.int .i64 y,.int .i64 ww,.int .i64 hh,p.agg] w λe w'=>e=.returned (.tuple #[])/\Zi w' cn gn v.W v.H (v.H*v.W) (zaY v.W x y ww hh p v.G v.H)/\zd (λi=>i=gn) w w':=by
 have HV:=zH h;have hb1:Below w.heap.size w (w.alloc (.cells #[.int .i64 p.f,.int .i64 p.b,.bool p.bo,.bool p.un,.bool p.re] 33)):=(Below.refl _ _).alloc (Nat.le_refl _) _;have P1:=ZO w p 33;have HVa:=zH<|h.same (hb1.block _ h.lt) (hb1.block _ h.gr.lt) (hb1.block _ h.gr.glt) (λi hi=>hb1.block _ (Zw h.row hi).1)
 have f5:=HVa.out.f5;have lb:=h.lt;have lg:=h.gr.glt;have h1:=h.gr.h1;have h2:=h.gr.h2;have sx:IntKind.i64.wrap (x+ww)=x+ww:=zm _ (by omega) (by omega);have sy:IntKind.i64.wrap (y+hh)=y+hh:=zm _ (by omega) (by omega);clear h;go_in;go_wp2_with (first|(go_at_call 127;refine sM (zbF _ _ _ _ _ _ _ HVa.out.gr) ?_)|(go_at_call 138;refine sM (zce _ _ _) ?_)|(go_at_call 139;refine sM (zcf _ _ _) ?_));generalize w.alloc (.cells #[.int .i64 p.f,.int .i64 p.b,.bool p.bo,.bool p.un,.bool p.re] 33)=wa at *;obtain⟨l0,hl0,hl0'⟩:∃l0:Nat,zK y 0=l0/\(∀j:Nat,j<l0->¬y<=j):=⟨(zK y 0).toNat,by unfold zK;split<;>omega,λj hj=>by unfold zK at hj;split at hj<;>omega⟩;obtain⟨en,hen⟩:∃en:Int,ZU (y+hh) v.H=en:=⟨_,rfl⟩;have hen1:en<=v.H/\en<=y+hh/\(∀j:Nat,en<=j->j<v.H->¬(j:Int)<y+hh):=by
  rw[←hen];unfold ZU;split
  ·exact⟨by omega,by omega,λj _ _=>by omega⟩
  ·exact⟨by omega,by omega,λj _ _=>by omega⟩
 rw[hl0,hen];have HE:=zH hen1;have HL0:Hid ((∀j:Nat,j<l0->¬y<=j)/\y<=l0):=⟨hl0',by rw[←hl0];unfold zK;split<;>omega⟩;have hl01:l0<=1000:=by
  have:zK y 0<=1000:=by unfold zK;split<;>omega
  omega
 clear hen1 hl0' hl0 hen;have Hfin:Hid (∀k:Nat,(k=l0\/k<=v.H)->en<=k->zaY v.W x y ww hh p v.G v.H=zaY v.W x y ww hh p v.G k):=λk hk he=>by
  by_cases hkH:k<=v.H
  ·exact zfl hkH (λj hj hj2 hc=>HE.out.2.2 j (by omega) hj2 hc.2)
  ·exact(zfl (a:=v.H) (b:=k) (by omega) (λj _ hj2 hc=>HL0.out.1 j (by omega) hc.1)).symm
 have Hst:Hid (zaY v.W x y ww hh p v.G l0=v.G):=zfl (a:=0) (by omega) (λj _ hj hc=>HL0.out.1 j hj hc.1);go_loopw[13] (λi w'=>∃k:Nat,l0<=k/\(k=l0\/k<=v.H)/\i=.int .i64 k/\Zi w' cn gn v.W v.H (v.H*v.W) (zaY v.W x y ww hh p v.G k)/\zd (λi=>i=gn) wa w') (λi _=>2000-(intOf i).toNat)
 case atStart=>exact⟨l0,by omega,.inl rfl,rfl,by rw[Hst.out];exact HVa.out.gr,zd.refl _ _⟩
 case round=>
  obtain⟨k,hk1,hk2,rfl,hG,hK⟩:=hrel;have HG:=zH hG;have HK:=zH hK;have g5:wr.cell? ⟨bn,5,none⟩=some (.pointer (some ⟨cn,0,none⟩)):=by rw[Zj (hK.block _ HVa.out.lt hbg)];exact f5
  have hPw:=hK.block _ P1.lt (by omega);obtain⟨p0,p1,p2,p3,p4⟩:=P1.same hPw;clear hG hK hPw;by_cases hlt:(k:Int)<en
  ·have hkH:k<v.H:=by have:=HE.out.1;omega
   have hin:y<=k/\(k:Int)<y+hh:=⟨by have:=HL0.out.2;omega,by have:=HE.out.2.1;omega⟩;have He:Hid (zaY v.W x y ww hh p v.G (k+1)=zaH v.W x (x+ww) k p (zaY v.W x y ww hh p v.G k)):=if_pos hin;have hd:Zi wr.drew cn gn v.W v.H (v.H*v.W) (zaY v.W x y ww hh p v.G k):=HG.out.same rfl rfl;have Her:Hid (Calls Tryz.prog 140 #[.pointer (some ⟨cn,0,none⟩),.int .i64 x,.int .i64 (x+ww),.int .i64 k,p.agg] wr.drew λe w'=>e=.returned (.tuple #[])/\Zi w' cn gn v.W v.H (v.H*v.W) (zaY v.W x y ww hh p v.G (k+1))/\zd (λi=>i=gn) wa w'):=by
    show Calls _ _ _ _ _;rw[He.out];exact(zlV cn gn v.W v.H _ _ x (x+ww) k p _ hd (zey HV.out.wf k) hkH).mono (λe w' ⟨a,b,c⟩=>⟨a,b,HK.out.trans ⟨c.os,c.tape,c.output,c.size,c.block⟩ (λ_ _ h=>h)⟩)
   clear hd He;go_wp2_with fail;go_region_with (first|(go_at_call 140;refine Her.out.mono ?_;rintro e wb ⟨rfl,G2,K2⟩;have HG2:=zH<|G2;clear G2));all_goals
    go_wp2_with fail;exact⟨⟨k+1,by omega,.inr (by omega),by simp,HG2.out,K2⟩,by simp[intOf];omega⟩
  ·have Hf:=zH<|Hfin.out k hk2 (by omega)
   go_wp2_with fail;go_end0;refine⟨rfl,by rw[Hf.out];exact HG.out,(zd.below _ hb1).trans HK.out (λ_ _ h=>h)⟩
def zef (x y:Int):Bool:=Wd.inB x 0 1000&&Wd.inB y 0 1000
theorem ziQ {x y:Int}:zef x y=true↔0<=x/\x<=1000/\0<=y/\y<=1000:=by simp[zef,Wd.inB,and_assoc]
theorem zp1 (x y:Int) (w:World):
 Calls Tryz.prog 84 #[.int .i64 x,.int .i64 y] w λe w'=>e=.returned (.bool (zef x y))/\w'=w:=by
 cases h1:Wd.inB x 0 1000<;>cases h2:Wd.inB y 0 1000;all_goals
  go_in;go_wp2_with (first|(go_at_call 107;refine sM (zan _ _ _ _) ?_));go_ret;exact⟨by simp[zef,h1,h2],rfl⟩
def zgD (L:List Wn) (n x y ww hh:Int) (p:Pn):Int:=if zch L n=false then 1 else if Zt x y=false then 4 else if zef ww hh=false then 3 else if zdA p=false then 8 else 0
section
variable {M:Mm} {L:List Wn} {last:Int} {N:Nat} {s:Rs} {t:Pt}
theorem zsg (ok:ZK L last) (w:World) (h:zI w M L last N s t) (n x y ww hh:Int) (p:Pn) (he:zgD L n x y ww hh p≠0):
 Calls Tryz.prog 33 #[.pointer (some ⟨M.t 0,0,none⟩),.int .i64 n,.int .i64 x,.int .i64 y,.int .i64 ww,.int .i64 hh,p.agg] w λe w'=>e=.returned (.int .i64 (zgD L n x y ww hh p))/\Below w.heap.size w w':=by
 have HD:=zH h;clear h;have hb1:Below w.heap.size w (w.alloc (.cells #[.int .i64 p.f,.int .i64 p.b,.bool p.bo,.bool p.un,.bool p.re] 33)):=(Below.refl _ _).alloc (Nat.le_refl _) _;have HDa:=zH<|HD.out.below hb1
 unfold zgD at he ⊢;by_cases h1:zch L n=false
 ·rw[if_pos h1];have hf:=M.fnd_no h1;clear he;go_in;go_wp2_with (first|(go_at_call 75;refine sM (zbj ok _ HDa.out _) ?_));go_ret;exact⟨rfl,hb1⟩
 rw[if_neg h1] at he ⊢;obtain⟨v,hv,rfl⟩:=zaX.1 (by simpa using h1);have hf:=M.fnd_in hv;clear h1;by_cases h2:Zt x y=false
 ·rw[if_pos h2];clear he;go_in;go_wp2_with (first|(go_at_call 75;refine sM (zbj ok _ HDa.out _) ?_)|(go_at_call 76;refine sM (zbX _ _ _) ?_));go_ret;exact⟨rfl,hb1⟩
 rw[if_neg h2] at he ⊢;have h2':Zt x y=true:=by simpa using h2
 clear h2;by_cases h3:zef ww hh=false
 ·rw[if_pos h3];clear he;go_in;go_wp2_with (first|(go_at_call 75;refine sM (zbj ok _ HDa.out _) ?_)|(go_at_call 76;refine sM (zbX _ _ _) ?_)|(go_at_call 84;refine sM (zp1 _ _ _) ?_));go_ret;exact⟨rfl,hb1⟩
 rw[if_neg h3] at he ⊢;have h3':zef ww hh=true:=by simpa using h3
 clear h3;by_cases h4:zdA p=false
 ·rw[if_pos h4];clear he;obtain⟨p0,p1,p2,p3,p4⟩:=ZO w p 33;go_in;go_wp2_with (first|(go_at_call 75;refine sM (zbj ok _ HDa.out _) ?_)|(go_at_call 76;refine sM (zbX _ _ _) ?_)|(go_at_call 84;refine sM (zp1 _ _ _) ?_));go_at_call 77;refine(zr6 p _).mono ?_;rw[h4];rintro e wb ⟨rfl,hbb⟩;have HB:=zH<|hb1.trans (hbb.mono hb1.size)
  clear p0 p1 p2 p3 p4 hbb;go_wp2_with fail;go_ret;exact⟨rfl,HB.out⟩
 ·rw[if_neg h4] at he;omega
theorem zvE (ok:ZK L last) (w:World) (h:zI w M L last N s t) (v:Wn) (hv:v∈L) (x y ww hh:Int) (p:Pn) (hpl:Zt x y=true) (hrc:zef ww hh=true) (hpn:zdA p=true):
 Calls Tryz.prog 33 #[.pointer (some ⟨M.t 0,0,none⟩),.int .i64 v.n,.int .i64 x,.int .i64 y,.int .i64 ww,.int .i64 hh,p.agg] w (zad M L (zY L v.n (λu=>{u with G:=zaY v.W x y ww hh p v.G v.H})) last N s t w (.int .i64 0)):=by
 have HD:=zH h;have hf:=M.fnd_in hv;have hx:=zbH.1 hpl;have hr:=ziQ.1 hrc;clear h;have hb1:Below w.heap.size w (w.alloc (.cells #[.int .i64 p.f,.int .i64 p.b,.bool p.bo,.bool p.un,.bool p.re] 33)):=(Below.refl _ _).alloc (Nat.le_refl _) _;have HDa:=zH<|HD.out.below hb1
 have P1:=ZO w p 33;obtain⟨p0,p1,p2,p3,p4⟩:=id P1;go_in;go_wp2_with (first|(go_at_call 75;refine sM (zbj ok _ HDa.out _) ?_)|(go_at_call 76;refine sM (zbX _ _ _) ?_)|(go_at_call 84;refine sM (zp1 _ _ _) ?_));go_at_call 77;refine(zr6 p _).mono ?_;rw[hpn];rintro e wb ⟨rfl,hbb⟩;have HDb:=zH<|HDa.out.below hbb
 have P2:=P1.same (hbb.block _ P1.lt);have K2:=zH<|hb1.trans (hbb.mono hb1.size)
 clear p0 p1 p2 p3 p4 P1 hbb HDa hb1;obtain⟨p0,p1,p2,p3,p4⟩:=P2;go_wp2_with fail;go_at_call 85;refine(zvD v _ _ _ _ _ _ x y ww hh p _ (HDb.out.win v hv) (HDb.out.ne_bg hv) hx hr).mono ?_;rintro e wc ⟨rfl,G1,K1⟩;have HP:Hid (zad M L (zY L v.n (λu=>{u with G:=zaY v.W x y ww hh p v.G v.H})) last N s t w (.int .i64 0) (.returned (.int .i64 0)) wc):=by
  obtain⟨M',e1,D1,t1,k1,o1⟩:=HDb.out.setG ok hv _ (zey (HDb.out.win v hv).wf v.H) G1 K1 (.int .i64 0);exact⟨M',e1,D1,t1,(zd.below _ K2.out).trans k1 (λ_ _ h=>h),λi hi=>(o1 i hi).imp id (λh=>by have:=K2.out.size;omega)⟩
 clear G1 K1 HDb K2 p0 p1 p2 p3 p4;go_wp2_with fail;go_ret;exact HP.out
end
section
variable {M:Mm} {L:List Wn} {last:Int} {N:Nat} {s:Rs} {t:Pt}
def Mm.setG (M:Mm) (n:Int) (g:Nat):Mm:={M with g:=Zo M.g n g}
theorem zp2 {n:Int} {g:Nat} {p:Pl} (hp:p≠.win n 2):(M.setG n g).blk p=M.blk p:=by
 cases p with
 |top k=>rfl
 |win m k=>
  match k with
  |0=>rfl
  |1=>rfl
  |2=>
   show some (Zo M.g n g m)=some (M.g m);rw[zn _ _ (λe=>hp (by rw[e]))]
  |k+3=>rfl
theorem zsh {f:Wn->Wn} {n:Int} (hnn:∀u∈L,u.n=n->(f u).n=n) (p:Pl):p.ok (zY L n f)↔p.ok L:=by
 cases p with
 |top k=>exact Iff.rfl
 |win m k=>
  have e:=zeV hnn;have h1:(∃u∈zY L n f,u.n=m)↔m∈(zY L n f).map Wn.n:=by simp
  have h2:(∃u∈L,u.n=m)↔m∈L.map Wn.n:=by simp
  show _/\_↔_/\_;rw[h1,h2,e]
theorem zn3 {f:Wn->Wn} {n:Int} (hnn:∀u∈L,u.n=n->(f u).n=n) (hpp:∀u∈L,u.n=n->(f u).par=u.par) (m:Int):M.ptrs (zy (zY L n f) m)=M.ptrs (zy L m):=by
 rw[ziO hpp];unfold Mm.ptrs;rw[List.map_map];refine List.map_congr_left λu hu=>?_;simp only[Function.comp];split
 ·rename_i e;rw[hnn u (Ze.1 hu).1 e,e]
 ·rfl
theorem zI.shape {w w':World} (h:zI w M L last N s t) (ok:ZK L last) {v:Wn} (hv:v∈L) (W' H' g':Nat) (G':Nat->Nat->zk) (hwf:Wf W' H' G')
 (hg:Zi w' (M.c v.n) g' W' H' (H'*W') G') (hk:zd (λi=>i=M.c v.n\/i=M.g v.n) w w') (hgn:w.heap.size<=g') (r:Value):
 zad M L (zY L v.n (λu=>{u with W:=W',H:=H',G:=G'})) last N s t w r (.returned r) w':=by
 obtain⟨rk,K,T⟩:=ok.tree;have hV:=h.win v hv;have hnn:∀u∈L,u.n=v.n->({u with W:=W',H:=H',G:=G'}:Wn).n=v.n:=λu _ e=>e;have hpp:∀u∈L,u.n=v.n->({u with W:=W',H:=H',G:=G'}:Wn).par=u.par:=λ_ _ _=>rfl;have hok:=zsh (f:=λu=>{u with W:=W',H:=H',G:=G'}) hnn;have kp:∀(p:Pl) (i:Nat),p.ok L->M.blk p=some i->p≠.win v.n 1->p≠.win v.n 2->w'.heap[i]?=w.heap[i]?:=λp i hp e n1 n2=>hk.block i (h.lt ⟨p,hp,e⟩) (by
  rintro(e'|e')
  ·exact h.ne (p:=p) (q:=.win v.n 1) hp ⟨by omega,v,hv,rfl⟩ e rfl n1 e'
  ·exact h.ne (p:=p) (q:=.win v.n 2) hp ⟨by omega,v,hv,rfl⟩ e rfl n2 e')
 have hold:∀p:Pl,p.ok (zY L v.n (λu=>{u with W:=W',H:=H',G:=G'}))->¬p=.win v.n 2->p.ok L/\(M.setG v.n g').blk p=M.blk p:=λp hp hn=>⟨(hok p).1 hp,zp2 hn⟩;have hfr:∀(p:Pl) (i:Nat),p.ok (zY L v.n (λu=>{u with W:=W',H:=H',G:=G'}))->p=.win v.n 2->(M.setG v.n g').blk p=some i->w.heap.size<=i:=λp i _ e hb=>by
  subst e;have:some (Zo M.g v.n g' v.n)=some i:=hb;rw[zD] at this;obtain rfl:g'=i:=by simpa using this
  exact hgn
 have nt:∀k,k<5->w'.heap[M.t k]?=w.heap[M.t k]?:=λk hk5=>kp (.top k) _ hk5 rfl (by simp) (by simp);refine⟨M.setG v.n g',rfl,⟨(nt 0 (by omega)).trans h.b0,(nt 1 (by omega)).trans h.b1,h.scr.same (nt 2 (by omega)) (nt 3 (by omega)) (nt 4 (by omega)),?_,?_,?_⟩,rfl,?_,λi hi=>zjG w.heap.size (λp=>p=.win v.n 2) hold hfr hi⟩
 ·intro u hu;show Z9 w' u (M.b u.n) (M.c u.n) (Zo M.g v.n g' u.n) (M.pp u.par) (M.s u.n) (M.ptrs (zy (zY L v.n _) u.n));rw[zn3 hnn hpp];rcases zfE hv rfl u hu T.nd with rfl|⟨huL,hne⟩
  ·show Z9 w' _ (M.b v.n) (M.c v.n) (Zo M.g v.n g' v.n) (M.pp v.par) (M.s v.n) (M.ptrs (zy L v.n));rw[zD];exact⟨(kp (.win v.n 0) _ ⟨by omega,v,hv,rfl⟩ rfl (by simp) (by simp)).trans hV.blk,hg,hwf,zx hV.row (λi hi=>kp (.win v.n 3) i ⟨by omega,v,hv,rfl⟩ hi (by simp) (by simp))⟩
  ·rw[zn _ _ hne];have hne':∀k j,(Pl.win u.n k)≠.win v.n j:=λk j e=>by injection e with e1;exact hne e1
   exact(h.win u huL).same (kp (.win u.n 0) _ ⟨by omega,u,huL,rfl⟩ rfl (hne' _ _) (hne' _ _)) (kp (.win u.n 1) _ ⟨by omega,u,huL,rfl⟩ rfl (hne' _ _) (hne' _ _)) (kp (.win u.n 2) _ ⟨by omega,u,huL,rfl⟩ rfl (hne' _ _) (hne' _ _)) (λi hi=>kp (.win u.n 3) i ⟨by omega,u,huL,rfl⟩ hi (hne' _ _) (hne' _ _))
 ·exact zjF h.inj w.heap.size (λi hi=>h.lt hi) (λp=>p=.win v.n 2) hold hfr (λp q i _ _ e1 e2 _ _=>by rw[e1,e2])
 ·intro i hi;rcases zjG w.heap.size (λp=>p=.win v.n 2) hold hfr hi with e|e
  ·exact h.two i e
  ·have:=h.two _ (Zg M L 0 (by omega));have:=h.lt (Zg M L 0 (by omega));omega
 ·exact hk.mono (λi e=>by rcases e with rfl|rfl;exact zpI M hv;exact znd M hv)
theorem zp3 (v:Wn) (bn cn gn:Nat) (pp:Option Addr) (sv:Value) (ks:List Value) (W' H':Nat) (w:World) (h:Z9 w v bn cn gn pp sv ks) (w1:1<=W') (w2:W'<=40) (h1:1<=H') (h2:H'<=20):
 Calls Tryz.prog 114 #[.pointer (some ⟨bn,0,none⟩),.int .i64 W',.int .i64 H'] w λe w'=>∃g',e=.returned (.tuple #[])/\Zi w' cn g' W' H' (H'*W') (ZJ v.W v.H W' v.G)/\zd (λi=>i=cn\/i=gn) w w'/\w.heap.size<=g':=by
 have HV:=zH h;have f5:=h.f5;clear h;go_in;go_wp2_with fail;go_at_call 119;refine(ztv cn gn v.W v.H _ W' H' v.G _ HV.out.gr HV.out.wf w1 w2 h1 h2).mono ?_;rintro e w' ⟨g',rfl,G2,K2,hg⟩;have HG2:=zH G2;clear G2;go_wp2_with fail;go_end0;exact⟨g',rfl,HG2.out,K2,hg⟩
theorem zua (ok:ZK L last) (w:World) (h:zI w M L last N s t) (v:Wn) (hv:v∈L) (hp:v.par≠-1) (W' H':Nat) (hs:ZC W' H'=true):
 Calls Tryz.prog 51 #[.pointer (some ⟨M.t 0,0,none⟩),.int .i64 v.n,.int .i64 W',.int .i64 H'] w (zad M L (zY L v.n (λu=>{u with W:=W',H:=H',G:=ZJ v.W v.H W' v.G})) last N s t w (.int .i64 0)):=by
 have HD:=zH h;have hz:=Zs.1 hs;clear h;go_in;go_wp2_with (first|(go_at_call 111;refine sM (zdY ok _ HD.out v hv hp) ?_)|(go_at_call 46;refine sM (zcg _ _ _) ?_));go_at_call 114;refine(zp3 v _ _ _ _ _ _ W' H' _ (HD.out.win v hv) (by omega) (by omega) (by omega) (by omega)).mono ?_;rintro e wa ⟨g',rfl,G1,K1,hg⟩;have HP:Hid (zad M L (zY L v.n (λu=>{u with W:=W',H:=H',G:=ZJ v.W v.H W' v.G})) last N s t w (.int .i64 0) (.returned (.int .i64 0)) wa):=HD.out.shape ok hv W' H' g' _ (HD.out.win v hv).wf.sized G1 K1 hg _;clear G1 K1 HD;go_wp2_with fail;go_ret;exact HP.out
theorem zp4 (ok:ZK L last) (w:World) (h:zI w M L last N s t) (n x y:Int) (he:zU L n≠0):
 Calls Tryz.prog 51 #[.pointer (some ⟨M.t 0,0,none⟩),.int .i64 n,.int .i64 x,.int .i64 y] w λe w'=>e=.returned (.int .i64 (zU L n))/\w'=w:=by
 have HD:=zH h;have hk:=zdC ok w h n he;have Hk:=zH hk;clear h hk;generalize zU L n=er at *;go_in;go_wp2_with (first|(go_at_call 111;refine sM Hk.out ?_));go_ret;exact⟨rfl,rfl⟩
theorem zn4 (ok:ZK L last) (w:World) (h:zI w M L last N s t) (v:Wn) (hv:v∈L) (hp:v.par≠-1) (x y:Int) (hs:ZC x y=false):
 Calls Tryz.prog 51 #[.pointer (some ⟨M.t 0,0,none⟩),.int .i64 v.n,.int .i64 x,.int .i64 y] w λe w'=>e=.returned (.int .i64 3)/\w'=w:=by
 have HD:=zH h;clear h;go_in;go_wp2_with (first|(go_at_call 111;refine sM (zdY ok _ HD.out v hv hp) ?_)|(go_at_call 46;refine sM (zcg _ _ _) ?_));go_ret;exact⟨rfl,rfl⟩
theorem zn5 (ok:ZK L last) (w:World) (h:zI w M L last N s t) (n:Int) (he:zU L n≠0):
 Calls Tryz.prog 49 #[.pointer (some ⟨M.t 0,0,none⟩),.int .i64 n] w λe w'=>e=.returned (.int .i64 (zU L n))/\w'=w:=by
 have HD:=zH h;have hk:=zdC ok w h n he;have Hk:=zH hk;clear h hk;generalize zU L n=er at *;go_in;go_wp2_with (first|(go_at_call 111;refine sM Hk.out ?_));go_ret;exact⟨rfl,rfl⟩
noncomputable def delL (L:List Wn) (n:Int):List Wn:=L.filter (λu=>!(@decide (Sub L n u.n) (Classical.propDecidable _)))
theorem zbY {n:Int} {u:Wn}:u∈delL L n↔u∈L/\¬Sub L n u.n:=by simp[delL]
theorem zn6 (nd:(L.map Wn.n).Nodup) {v:Wn} {u:Wn} (hu:u∈delL L v.n):zy (delL L v.n) u.n=zy (zG L v.n) u.n:=by
 unfold zy delL zG;rw[List.filter_filter,List.filter_filter];refine List.filter_congr λk hk=>?_;by_cases hp:k.par=u.n
 ·have hu':=(zbY.1 hu).2;by_cases he:k.n=v.n
  ·have:Sub L v.n v.n:=.refl;simp[hp,he,this]
  ·have:¬Sub L v.n k.n:=λhs=>by
    rcases hs.last with e|⟨k',hk',e,hs'⟩
    ·exact he e
    ·obtain rfl:=zak nd hk' hk e;exact hu' (hp ▸ hs')
   simp[hp,he,this]
 ·simp[hp]
theorem zI.sub {w:World} {L1:List Wn} (h:zI w M L last N s t) (hs:∀u∈L1,u∈L) (hk:∀u∈L1,zy L1 u.n=zy L u.n):zI w M L1 last N s t:=
 ⟨h.b0,h.b1,h.scr,λu hu=>by rw[hk u hu];exact h.win u (hs u hu),zni hs h.inj,λi hi=>h.two i (zjI hs hi)⟩
theorem zp5 {v:Wn} {u:Wn} (hu:u∈delL L v.n):u∈zG L v.n:=by
 obtain⟨h1,h2⟩:=zbY.1 hu;exact Za.2 ⟨h1,λe=>h2 (e ▸ .refl)⟩
theorem zsi (ok:ZK L last) (w:World) (h:zI w M L last N s t) (v o:Wn) (hv:v∈L) (ho:o∈L) (hp:v.par=o.n) (hvo:v.n≠o.n) (hp1:v.par≠-1):
 Calls Tryz.prog 49 #[.pointer (some ⟨M.t 0,0,none⟩),.int .i64 v.n] w (zad M L (delL L v.n) last N s t w (.int .i64 0)):=by
 obtain⟨rk,K,T⟩:=ok.tree;have Hnd:=zH T.nd;have HD:=zH h;clear h T;have Hdel:Hid (Calls Tryz.prog 112 #[M.ptr v.n] w (zad M L (delL L v.n) last N s t w (.tuple #[]))):=by
  show Calls _ _ _ _ _;go_in;go_wp2_with fail;go_at_call 152;refine(zjJ ok _ HD.out v o hv ho hp hvo).mono ?_;rintro e w1 ⟨sp,rfl,D1,V1,K1,hso,_⟩;have hblk:=zdB (M:=M) hso;have HP:Hid (zad M L (delL L v.n) last N s t w (.tuple #[]) (.returned (.tuple #[])) w1):=⟨M.setS o.n sp,rfl,D1.sub (λu hu=>zp5 hu) (λu hu=>zn6 Hnd.out hu),rfl,K1,λi ⟨p,hp',e⟩=>.inl (zjI (λu hu=>(zbY.1 hu).1) ⟨p,hp',by rw[←hblk];exact e⟩)⟩;clear D1 V1 K1 hblk hso;go_wp2_with fail;go_end0;exact HP.out
 go_in;go_wp2_with (first|(go_at_call 111;refine sM (zdY ok _ HD.out v hv hp1) ?_));go_at_call 112;refine Hdel.out.mono ?_;rintro e w1 hl;obtain⟨rfl,HP⟩:=hl.ret (r':=.int .i64 0);have HP1:=zH HP;clear hl HP;go_wp2_with fail;go_ret;exact HP1.out
end
end
section
theorem zfF {α:Type} {p:α->Bool} (L:List α) (h:∀(k:Nat) (v:α),L[k]?=some v->p v=false):L.reverse.find? p=none:=by
 rw[List.find?_eq_none];intro a ha;rw[List.mem_reverse] at ha;obtain⟨k,hk⟩:=List.getElem?_of_mem ha;simp[h k a hk]
theorem zjK {α:Type} {p:α->Bool}:∀(L:List α) (j:Nat) (u:α),L[j]?=some u->p u=true->(∀(k:Nat) (v:α),j<k->L[k]?=some v->p v=false)->L.reverse.find? p=some u:=by
 intro L;induction L with
 |nil=>intro j u h;simp at h
 |cons a t ih=>
  intro j u h hp hk;rw[List.reverse_cons,List.find?_append];cases j with
  |zero=>
   obtain rfl:a=u:=by simpa using h
   rw[zfF t (λk v hv=>hk (k+1) v (by omega) (by simpa using hv))];simp[hp]
  |succ j=>
   rw[ih j u (by simpa using h) hp (λk v hkj hv=>hk (k+1) v (by omega) (by simpa using hv))];rfl
theorem zkC (L:List Wn) (n x y:Int):zcw L n x y=L.reverse.find? (λu=>decide (u.par=n)&&hit x y u):=by
 unfold zcw zy;rw[←List.filter_reverse,List.find?_filter];congr 1;funext a;simp
def zdc (v:Wn):List Wn->List Wn
 |[]=>[v]
 |r::t=>r::v::t
theorem zn7 (v u:Wn) {M:List Wn} (h:M≠[]):zdc v (M ++ [u])=zdc v M ++ [u]:=by
 cases M with
 |nil=>exact absurd rfl h
 |cons r t=>rfl
theorem ziR (L:List Wn) (v:Wn):zcK L v=zdc v (zG L v.n):=by
 unfold zcK zdc;split<;>simp_all
theorem zhy (v:Wn) (M:List Wn):(zdc v M).length=M.length+1:=by cases M<;>simp[zdc]
theorem zp6 {v u:Wn} {M:List Wn}:u∈zdc v M↔u=v\/u∈M:=by
 cases M with
 |nil=>simp[zdc]
 |cons r t=>simp[zdc];exact or_left_comm
def Zx (L:List Wn) (n:Int) (k:Nat):List Wn:=zG (L.take k) n
theorem zd0 {α:Type} {L:List α} {k:Nat} {u:α} (h:L[k]?=some u):L.take (k+1)=L.take k ++ [u]:=by
 rw[List.take_add_one,h];rfl
theorem zgE {L:List Wn} {n:Int} {k:Nat} {u:Wn} (h:L[k]?=some u) (hn:u.n=n):Zx L n (k+1)=Zx L n k:=by
 unfold Zx zG;rw[zd0 h,List.filter_append];simp[hn]
theorem zdk {L:List Wn} {n:Int} {k:Nat} {u:Wn} (h:L[k]?=some u) (hn:u.n≠n):Zx L n (k+1)=Zx L n k ++ [u]:=by
 unfold Zx zG;rw[zd0 h,List.filter_append];simp[hn]
theorem zhz (L:List Wn) (n:Int):Zx L n L.length=zG L n:=by unfold Zx;rw[List.take_length]
theorem zd1 (L:List Wn) (n:Int) (k:Nat):(Zx L n k).length<=k:=Nat.le_trans (List.length_filter_le _ _) (List.length_take_le _ _)
noncomputable def firstD (L:List Wn) (n:Int) (k:Nat):List Wn:=(L.take k).filter (λu=>!(@decide (Sub L n u.n) (Classical.propDecidable _)))
theorem zkD {L:List Wn} {n:Int} {k:Nat} {u:Wn} (h:L[k]?=some u) (hn:Sub L n u.n):firstD L n (k+1)=firstD L n k:=by
 unfold firstD;rw[zd0 h,List.filter_append];simp[hn]
theorem zkE {L:List Wn} {n:Int} {k:Nat} {u:Wn} (h:L[k]?=some u) (hn:¬Sub L n u.n):firstD L n (k+1)=firstD L n k ++ [u]:=by
 unfold firstD;rw[zd0 h,List.filter_append];simp[hn]
theorem zma (L:List Wn) (n:Int):firstD L n L.length=delL L n:=by unfold firstD delL;rw[List.take_length]
theorem zmb (L:List Wn) (n:Int) (k:Nat):(firstD L n k).length<=k:=Nat.le_trans (List.length_filter_le _ _) (List.length_take_le _ _)
end
section
open Go.RowKit
attribute [local go_sem ↓] Go.wp_at_zero Go.wp_at_succ
theorem znk (bs bg g N:Nat) (s:Rs) (t:Pt) (w:World) (h:zh w bs bg g N s t):
 Calls Tryz.prog 228 #[.pointer (some ⟨bs,0,none⟩)] w λe w'=>e=.returned (zS s).agg/\Below w.heap.size w w':=by
 have c:=h.f5;have l:=h.lt;clear h;go_in;go_wp2;exact bodyPost_ret (v:=(zS s).agg) (by simp[results,Tryz.results228,go_sem,zS]) rfl ⟨rfl,(Below.refl _ _).alloc (Nat.le_refl _) _⟩
theorem zfb (bs bg g N:Nat) (s:Rs) (t:Pt) (x y:Int) (w:World) (h:zh w bs bg g N s t):
 Calls Tryz.prog 120 #[.pointer (some ⟨bs,0,none⟩),.int .i64 x,.int .i64 y] w (zV bs bg g N w (ZQ s x y) t (.tuple #[])):=by
 have HP:=zH h;have c0:=h.f0;have c1:=h.f1;have c2:=h.f2;have c3:=h.f3;have fz:=h.free;have w1:=h.gr.w1;have w2:=h.gr.w2;have h1:=h.gr.h1;have h2:=h.gr.h2;have hbw:=ze8 x w1;have hbh:=ze8 y h1;clear h;go_in;go_wp2_with (first|(go_at_call 126;refine sM (zcC bg g s.W s.H N s.G _ HP.out.gr) ?_)|(go_at_call 156;refine sM (zho _ _ _ _) ?_));have HP1:Hid (zh (w.setCell ⟨bs,1,none⟩ (.int .i64 (zap x s.W))) bs bg g N {s with x:=zap x s.W} t):=HP.out.setX _;go_wp2_with (first|(go_at_call 127;refine sM (zbF bg g s.W s.H N s.G _ HP1.out.gr) ?_)|(go_at_call 156;refine sM (zho _ _ _ _) ?_));go_end0;exact⟨rfl,(HP1.out.setY _).setPend false,(((zd.refl _ w).setCell ⟨bs,1,none⟩ _ (λ_=>Or.inl rfl)).setCell ⟨bs,2,none⟩ _ (λ_=>Or.inl rfl)).setCell ⟨bs,3,none⟩ _ (λ_=>Or.inl rfl)⟩
theorem zjL (bs bg g N:Nat) (s:Rs) (t:Pt) (n:Int) (w:World) (h:zh w bs bg g N s t) (h0:0<=s.top) (ht:s.top<=s.bot) (hb:s.bot<s.H):
 Calls Tryz.prog 208 #[.pointer (some ⟨bs,0,none⟩),.int .i64 n] w (zV bs bg g N w {s with G:=zo s.top s.bot n (zS s) s.G} t (.tuple #[])):=by
 have HP:=zH h;have c0:=h.f0;have c9:=h.f9;have c10:=h.f10;clear h;go_in;go_wp2_with fail;have HD:=zH HP.out.drew;have lt:=HP.out.lt;have ng:¬bs=g:=HP.out.ne2;go_region_held3 (λw'=>w'.cell? ⟨bs,0,none⟩=some (.pointer (some ⟨bg,0,none⟩))/\w'.cell? ⟨bs,9,none⟩=some (.int .i64 s.top)/\w'.cell? ⟨bs,10,none⟩=some (.int .i64 s.bot)) (simp[*]) (first|(go_at_call 228;refine(znk bs bg g N s t _ HD.out).mono ?_;rintro e w2 ⟨rfl,hb2⟩;have HP2:=zH<|HD.out.below hb2;have K2:zd (λi=>i=bs\/i=bg\/i=g) w w2:=((zd.refl _ w).drew).thenBelow hb2;have e1:=hb2.cells lt;clear hb2)|(go_at_call 141;refine(zku bg g s.W s.H N s.G s.top s.bot n (zS s) _ HP2.out.gr h0 ht hb).mono ?_;rintro e w3 ⟨rfl,G3,K3⟩;have e2:=keepC K3 HP2.out.lt ng));go_wp2_with fail;go_end0;exact⟨rfl,HP2.out.cells _ (K3.block _ HP2.out.lt ng) G3 rfl ng,K2.trans K3 (λ_ _ h=>Or.inr (Or.inr h))⟩
theorem znl (bs bg g N:Nat) (s:Rs) (t:Pt) (W H:Nat) (w:World) (h:zh w bs bg g N s t) (ok:s.Ok) (w1:1<=W) (w2:W<=40) (h1:1<=H) (h2:H<=20):
 Calls Tryz.prog 59 #[.pointer (some ⟨bs,0,none⟩),.int .i64 W,.int .i64 H] w (zvu bs bg g w (zaB s W H) t (.tuple #[])):=by
 have HP:=zH h;have Hok:=zH ok;have c0:=h.f0;clear h ok;go_in;go_wp2_with fail;go_at_call 119;refine(ztv bg g s.W s.H N W H s.G _ HP.out.gr Hok.out.wf w1 w2 h1 h2).mono ?_;rintro e wa ⟨g1,rfl,G1,K1,hg1⟩;have hlt:=HP.out.lt;have hne:bs≠bg/\bs≠g:=⟨HP.out.ne1,HP.out.ne2⟩;have HP1:Hid (zh wa bs bg g1 (H*W) {s with W:=W,H:=H,G:=ZJ s.W s.H W s.G} t):=HP.out.cells _ (K1.block _ hlt (by omega)) G1 rfl (by omega);have HK1:Hid (zd (λi=>i=bs\/i=bg\/i=g) w wa):=K1.mono (λ_ h=>Or.inr h);clear G1 K1 HP c0;have c9:=HP1.out.f9;have c10:=HP1.out.f10;have fz:=HP1.out.free;go_wp2_with fail;have HP2:Hid (zh ((wa.setCell ⟨bs,9,none⟩ (.int .i64 0)).setCell ⟨bs,10,none⟩ (.int .i64 ((H:Int)-1))) bs bg g1 (H*W) {s with W:=W,H:=H,top:=0,bot:=(H:Int)-1,G:=ZJ s.W s.H W s.G} t):=(HP1.out.setTop 0).setBot _;have HK2:Hid (zd (λi=>i=bs\/i=bg\/i=g) w ((wa.setCell ⟨bs,9,none⟩ (.int .i64 0)).setCell ⟨bs,10,none⟩ (.int .i64 ((H:Int)-1)))):=(HK1.out.setCell ⟨bs,9,none⟩ _ (λ_=>Or.inl rfl)).setCell ⟨bs,10,none⟩ _ (λ_=>Or.inl rfl);generalize (wa.setCell ⟨bs,9,none⟩ (.int .i64 0)).setCell ⟨bs,10,none⟩ (.int .i64 ((H:Int)-1))=wb at *;clear HP1 HK1 c9 c10 fz;have c1:wb.cell? ⟨bs,1,none⟩=some (.int .i64 s.x):=HP2.out.f1;have c2:wb.cell? ⟨bs,2,none⟩=some (.int .i64 s.y):=HP2.out.f2;go_region_with (first|(go_at_call 120;refine(zfb bs bg g1 (H*W) {s with W:=W,H:=H,top:=0,bot:=(H:Int)-1,G:=ZJ s.W s.H W s.G} t s.x s.y _ HP2.out.drew).mono ?_;rintro e w5 ⟨rfl,R5,K5⟩));all_goals
  go_end0;refine⟨g1,H*W,rfl,R5,(HK2.out.drew).trans K5 (λi hi h=>by omega),Or.inr hg1⟩
def zbZ (M:Mm) (L L':List Wn) (last':Int) (s':Rs) (t':Pt) (w:World) (r:Value) (e:Ending) (w':World):Prop:=
 ∃M' N',e=.returned r/\zI w' M' L' last' N' s' t'/\M'.t 0=M.t 0/\zd (M.own L) w w'/\∀i,M'.own L' i->M.own L i\/w.heap.size<=i
def Mm.setT (M:Mm) (g:Nat):Mm:={M with t:=λk=>if k=4 then g else M.t k}
section
variable {M:Mm} {L:List Wn} {last:Int} {N:Nat} {s:Rs} {t:Pt}
theorem zad.toG {L':List Wn} {last':Int} {w w':World} {r:Value} {e:Ending} (h:zad M L L' last' N s t w r e w'):zbZ M L L' last' s t w r e w':=by
 obtain⟨M',e,D,ht,K,O⟩:=h;exact⟨M',N,e,D,by rw[ht],K,O⟩
theorem zkF {g:Nat} {p:Pl} (hp:p≠.top 4):(M.setT g).blk p=M.blk p:=by
 cases p with
 |top k=>
  show some (if k=4 then g else M.t k)=some (M.t k);rw[if_neg (λe=>hp (by rw[e]))]
 |win m k=>
  match k with
  |0=>rfl
  |1=>rfl
  |2=>rfl
  |k+3=>rfl
theorem zI.rescreen {w w':World} {g' N':Nat} {s':Rs} {t':Pt} (h:zI w M L last N s t) (hp:zh w' (M.t 2) (M.t 3) g' N' s' t') (hk:zd (λi=>i=M.t 2\/i=M.t 3\/i=M.t 4) w w') (hg:g'=M.t 4\/w.heap.size<=g') (r:Value):
 zbZ M L L last s' t' w r (.returned r) w':=by
 have kp:∀(p:Pl) (i:Nat),p.ok L->M.blk p=some i->p≠.top 2->p≠.top 3->p≠.top 4->w'.heap[i]?=w.heap[i]?:=λp i hp e n1 n2 n3=>hk.block i (h.lt ⟨p,hp,e⟩) (by
  rintro(e'|e'|e')
  ·exact h.ne (p:=p) (q:=.top 2) hp (show 2<5 by omega) e rfl n1 e'
  ·exact h.ne (p:=p) (q:=.top 3) hp (show 3<5 by omega) e rfl n2 e'
  ·exact h.ne (p:=p) (q:=.top 4) hp (show 4<5 by omega) e rfl n3 e')
 have hown:∀i,(M.setT g').own L i->M.own L i\/w.heap.size<=i:=λi ⟨p,hp',e⟩=>by
  by_cases e4:p=.top 4
  ·subst e4;obtain rfl:g'=i:=by simpa[Mm.blk,Mm.setT] using e
   rcases hg with rfl|hg
   ·exact .inl (Zg M L 4 (by omega))
   ·exact .inr hg
  ·exact .inl ⟨p,hp',by rw[←zkF e4];exact e⟩
 have h0:=h.two _ (Zg M L 0 (by omega));have h1:=h.lt (Zg M L 0 (by omega));refine⟨M.setT g',N',rfl,⟨(kp (.top 0) _ (show 0<5 by omega) rfl (by simp) (by simp) (by simp)).trans h.b0,(kp (.top 1) _ (show 1<5 by omega) rfl (by simp) (by simp) (by simp)).trans h.b1,hp,?_,?_,?_⟩,rfl,?_,hown⟩
 ·intro u hu;exact(h.win u hu).same (kp (.win u.n 0) _ ⟨by omega,u,hu,rfl⟩ rfl (by simp) (by simp) (by simp)) (kp (.win u.n 1) _ ⟨by omega,u,hu,rfl⟩ rfl (by simp) (by simp) (by simp)) (kp (.win u.n 2) _ ⟨by omega,u,hu,rfl⟩ rfl (by simp) (by simp) (by simp)) (λi hi=>kp (.win u.n 3) i ⟨by omega,u,hu,rfl⟩ hi (by simp) (by simp) (by simp))
 ·rcases hg with e|hg
  ·have:M.setT g'=M:=by
    unfold Mm.setT;have:(λk=>if k=4 then g' else M.t k)=M.t:=by funext k;split;(rename_i e';rw[e',e]);rfl
    rw[this]
   rw[this];exact h.inj
  ·exact zjF h.inj w.heap.size (λi hi=>h.lt hi) (λp=>p=.top 4) (λp hp' hn=>⟨hp',zkF hn⟩) (λp i _ e hb=>by
    subst e;obtain rfl:g'=i:=by simpa[Mm.blk,Mm.setT] using hb
    exact hg) (λp q i _ _ e1 e2 _ _=>by rw[e1,e2])
 ·intro i hi;rcases hown i hi with e|e
  ·exact h.two i e
  ·omega
 ·exact hk.mono (λi e=>by rcases e with rfl|rfl|rfl;exact Zg M L 2 (by omega);exact Zg M L 3 (by omega);exact Zg M L 4 (by omega))
theorem zbZ.after {M1:Mm} {L1 L2:List Wn} {last2:Int} {s2:Rs} {t2:Pt} {w w1 w2:World} {r:Value} {e:Ending} (ht:M1.t 0=M.t 0) (K:zd (M.own L) w w1) (O:∀i,M1.own L1 i->M.own L i\/w.heap.size<=i) (h:zbZ M1 L1 L2 last2 s2 t2 w1 r e w2):zbZ M L L2 last2 s2 t2 w r e w2:=by
 obtain⟨M',N',e,D,ht',K',O'⟩:=h;refine⟨M',N',e,D,ht'.trans ht,K.trans K' (λi hi ho=>?_),λi hi=>?_⟩
 ·rcases O i ho with a|a
  ·exact a
  ·omega
 ·rcases O' i hi with a|a
  ·exact O i a
  ·exact .inr (Nat.le_trans K.size a)
theorem zub (ok:ZK L last) (w:World) (h:zI w M L last N s t) (v:Wn) (hv:v∈L) (W' H':Nat) (w1:1<=W') (w2:W'<=40) (h1:1<=H') (h2:H'<=20):
 Calls Tryz.prog 114 #[M.ptr v.n,.int .i64 W',.int .i64 H'] w (zad M L (zY L v.n (λu=>{u with W:=W',H:=H',G:=ZJ v.W v.H W' v.G})) last N s t w (.tuple #[])):=by
 have hw:=zp3 v (M.b v.n) (M.c v.n) (M.g v.n) (M.pp v.par) (M.s v.n) (M.ptrs (zy L v.n)) W' H' w (h.win v hv) w1 w2 h1 h2;refine hw.mono ?_;rintro e wa ⟨g',rfl,G1,K1,hg⟩;exact h.shape ok hv W' H' g' _ (h.win v hv).wf.sized G1 K1 hg _
theorem zsj (ok:ZK L last) (w:World) (h:zI w M L last N s t) (hs:s.Ok) (v:Wn) (hv:v∈L) (hv0:v.n=0) (W' H':Nat) (w1:1<=W') (w2:W'<=40) (h1:1<=H') (h2:H'<=20):
 Calls Tryz.prog 57 #[.pointer (some ⟨M.t 1,0,none⟩),.int .i64 W',.int .i64 H'] w (zbZ M L (zY L v.n (λu=>{u with W:=W',H:=H',G:=ZJ v.W v.H W' v.G})) last (zaB s W' H') t w (.tuple #[])):=by
 have HD:=zH h;have Hs:=zH hs;have d0:=h.d0;have d2:=h.d2;rw[←hv0] at d0;clear h hs hv0;have Hsh:=zH<|zub ok w HD.out v hv W' H' w1 w2 h1 h2
 go_in;go_wp2_with fail;go_at_call 114;refine Hsh.out.mono ?_;rintro e wa ⟨M1,rfl,D1,ht,K1,O1⟩;have HD1:=zH D1;have HK1:=zH K1;have HO1:=zH O1;have Ht:=zH ht;clear D1 K1 O1 ht d0 d2;have d2:=HD1.out.d2;rw[Ht.out] at d2;go_wp2_with fail;go_at_call 59;refine(znl (M.t 2) (M1.t 3) (M1.t 4) N s t W' H' _ (by rw[←Ht.out];exact HD1.out.scr) Hs.out w1 w2 h1 h2).mono ?_;rintro e wb ⟨g',N',rfl,P2,K2,hg⟩;have HP:Hid (zbZ M L (zY L v.n (λu=>{u with W:=W',H:=H',G:=ZJ v.W v.H W' v.G})) last (zaB s W' H') t w (.tuple #[]) (.returned (.tuple #[])) wb):=by
  rw[←Ht.out] at P2 K2;exact zbZ.after (by rw[Ht.out]) HK1.out HO1.out (HD1.out.rescreen P2 K2 hg (.tuple #[]))
 clear P2 K2 hg d2;go_wp2_with fail;go_end0;exact HP.out
theorem zsk (ok:ZK L last) (w:World) (h:zI w M L last N s t) (hs:s.Ok) (v:Wn) (hv:v∈L) (hv0:v.n=0) (W' H':Nat) (hz:ZC W' H'=true):
 Calls Tryz.prog 18 #[.pointer (some ⟨M.t 0,0,none⟩),.int .i64 W',.int .i64 H'] w (zbZ M L (zY L v.n (λu=>{u with W:=W',H:=H',G:=ZJ v.W v.H W' v.G})) last (zaB s W' H') t w (.int .i64 0)):=by
 have HD:=zH h;have Hs:=zH hs;have c0:=h.c0;have hz':=Zs.1 hz;clear h hs;go_in;go_wp2_with (first|(go_at_call 41;refine sM (ziJ _ HD.out) ?_)|(go_at_call 46;refine sM (zcg _ _ _) ?_));go_at_call 57;refine(zsj ok _ HD.out Hs.out v hv hv0 W' H' (by omega) (by omega) (by omega) (by omega)).mono ?_;rintro e wa ⟨M',N',rfl,D,ht,K,O⟩;have HP:Hid (zbZ M L (zY L v.n (λu=>{u with W:=W',H:=H',G:=ZJ v.W v.H W' v.G})) last (zaB s W' H') t w (.int .i64 0) (.returned (.int .i64 0)) wa):=⟨M',N',rfl,D,ht,K,O⟩;clear D K O ht;go_wp2_with fail;go_ret;exact HP.out
theorem zn8 (w:World) (h:zI w M L last N s t) (x y:Int) (hz:ZC x y=false):
 Calls Tryz.prog 18 #[.pointer (some ⟨M.t 0,0,none⟩),.int .i64 x,.int .i64 y] w λe w'=>e=.returned (.int .i64 3)/\w'=w:=by
 have HD:=zH h;clear h;go_in;go_wp2_with (first|(go_at_call 41;refine sM (ziJ _ HD.out) ?_)|(go_at_call 46;refine sM (zcg _ _ _) ?_));go_ret;exact⟨rfl,rfl⟩
end
end
end Go.Proofs.YtjlfibhbfdckpaaGreatDoor
