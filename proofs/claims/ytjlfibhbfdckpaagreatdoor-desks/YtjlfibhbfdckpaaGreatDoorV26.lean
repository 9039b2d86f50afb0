import Derived.Test.YtjlfibhbfdckpaaGreatDoorV25
namespace Go.Proofs.YtjlfibhbfdckpaaGreatDoor
set_option maxHeartbeats 64000000
set_option maxRecDepth 100000
section
open Go.RowKit
attribute [local go_sem ↓] Go.wp_at_zero Go.wp_at_succ
section
variable {M:Mm} {L:List Wn} {last:Int} {N:Nat} {s:Rs} {t:Pt}
def Mm.setG (M:Mm) (n:Int) (g:Nat):Mm:={M with g:=Zo M.g n g}
theorem zp2 {n:Int} {g:Nat} {p:Pl} (hp:p≠.win n 2):(M.setG n g).blk p=M.blk p:=by
 cases p with
 |top k=>rfl
 |win m k=>
  match k with
  |0=>rfl
  |1=>rfl
  |2=>
   show some (Zo M.g n g m)=some (M.g m);rw[zn _ _ (λe=>hp (by rw[e]))]
  |k+3=>rfl
theorem zsh {f:Wn->Wn} {n:Int} (hnn:∀u∈L,u.n=n->(f u).n=n) (p:Pl):p.ok (zY L n f)↔p.ok L:=by
 cases p with
 |top k=>exact Iff.rfl
 |win m k=>
  have e:=zeV hnn;have h1:(∃u∈zY L n f,u.n=m)↔m∈(zY L n f).map Wn.n:=by simp
  have h2:(∃u∈L,u.n=m)↔m∈L.map Wn.n:=by simp
  show _/\_↔_/\_;rw[h1,h2,e]
theorem zn3 {f:Wn->Wn} {n:Int} (hnn:∀u∈L,u.n=n->(f u).n=n) (hpp:∀u∈L,u.n=n->(f u).par=u.par) (m:Int):M.ptrs (zy (zY L n f) m)=M.ptrs (zy L m):=by
 rw[ziO hpp];unfold Mm.ptrs;rw[List.map_map];refine List.map_congr_left λu hu=>?_;simp only[Function.comp];split
 ·rename_i e;rw[hnn u (Ze.1 hu).1 e,e]
 ·rfl
theorem zI.shape {w w':World} (h:zI w M L last N s t) (ok:ZK L last) {v:Wn} (hv:v∈L) (W' H' g':Nat) (G':Nat->Nat->zk) (hwf:Wf W' H' G')
 (hg:Zi w' (M.c v.n) g' W' H' (H'*W') G') (hk:zd (λi=>i=M.c v.n\/i=M.g v.n) w w') (hgn:w.heap.size<=g') (r:Value):
 zad M L (zY L v.n (λu=>{u with W:=W',H:=H',G:=G'})) last N s t w r (.returned r) w':=by
 obtain⟨rk,K,T⟩:=ok.tree;have hV:=h.win v hv;have hnn:∀u∈L,u.n=v.n->({u with W:=W',H:=H',G:=G'}:Wn).n=v.n:=λu _ e=>e;have hpp:∀u∈L,u.n=v.n->({u with W:=W',H:=H',G:=G'}:Wn).par=u.par:=λ_ _ _=>rfl;have hok:=zsh (f:=λu=>{u with W:=W',H:=H',G:=G'}) hnn;have kp:∀(p:Pl) (i:Nat),p.ok L->M.blk p=some i->p≠.win v.n 1->p≠.win v.n 2->w'.heap[i]?=w.heap[i]?:=λp i hp e n1 n2=>hk.block i (h.lt ⟨p,hp,e⟩) (by
  rintro(e'|e')
  ·exact h.ne (p:=p) (q:=.win v.n 1) hp ⟨by omega,v,hv,rfl⟩ e rfl n1 e'
  ·exact h.ne (p:=p) (q:=.win v.n 2) hp ⟨by omega,v,hv,rfl⟩ e rfl n2 e')
 have hold:∀p:Pl,p.ok (zY L v.n (λu=>{u with W:=W',H:=H',G:=G'}))->¬p=.win v.n 2->p.ok L/\(M.setG v.n g').blk p=M.blk p:=λp hp hn=>⟨(hok p).1 hp,zp2 hn⟩;have hfr:∀(p:Pl) (i:Nat),p.ok (zY L v.n (λu=>{u with W:=W',H:=H',G:=G'}))->p=.win v.n 2->(M.setG v.n g').blk p=some i->w.heap.size<=i:=λp i _ e hb=>by
  subst e;have:some (Zo M.g v.n g' v.n)=some i:=hb;rw[zD] at this;obtain rfl:g'=i:=by simpa using this
  exact hgn
 have nt:∀k,k<5->w'.heap[M.t k]?=w.heap[M.t k]?:=λk hk5=>kp (.top k) _ hk5 rfl (by simp) (by simp);refine⟨M.setG v.n g',rfl,⟨(nt 0 (by omega)).trans h.b0,(nt 1 (by omega)).trans h.b1,h.scr.same (nt 2 (by omega)) (nt 3 (by omega)) (nt 4 (by omega)),?_,?_,?_⟩,rfl,?_,λi hi=>zjG w.heap.size (λp=>p=.win v.n 2) hold hfr hi⟩
 ·intro u hu;show Z9 w' u (M.b u.n) (M.c u.n) (Zo M.g v.n g' u.n) (M.pp u.par) (M.s u.n) (M.ptrs (zy (zY L v.n _) u.n));rw[zn3 hnn hpp];rcases zfE hv rfl u hu T.nd with rfl|⟨huL,hne⟩
  ·show Z9 w' _ (M.b v.n) (M.c v.n) (Zo M.g v.n g' v.n) (M.pp v.par) (M.s v.n) (M.ptrs (zy L v.n));rw[zD];exact⟨(kp (.win v.n 0) _ ⟨by omega,v,hv,rfl⟩ rfl (by simp) (by simp)).trans hV.blk,hg,hwf,zx hV.row (λi hi=>kp (.win v.n 3) i ⟨by omega,v,hv,rfl⟩ hi (by simp) (by simp))⟩
  ·rw[zn _ _ hne];have hne':∀k j,(Pl.win u.n k)≠.win v.n j:=λk j e=>by injection e with e1;exact hne e1
   exact(h.win u huL).same (kp (.win u.n 0) _ ⟨by omega,u,huL,rfl⟩ rfl (hne' _ _) (hne' _ _)) (kp (.win u.n 1) _ ⟨by omega,u,huL,rfl⟩ rfl (hne' _ _) (hne' _ _)) (kp (.win u.n 2) _ ⟨by omega,u,huL,rfl⟩ rfl (hne' _ _) (hne' _ _)) (λi hi=>kp (.win u.n 3) i ⟨by omega,u,huL,rfl⟩ hi (hne' _ _) (hne' _ _))
 ·exact zjF h.inj w.heap.size (λi hi=>h.lt hi) (λp=>p=.win v.n 2) hold hfr (λp q i _ _ e1 e2 _ _=>by rw[e1,e2])
 ·intro i hi;rcases zjG w.heap.size (λp=>p=.win v.n 2) hold hfr hi with e|e
  ·exact h.two i e
  ·have:=h.two _ (Zg M L 0 (by omega));have:=h.lt (Zg M L 0 (by omega));omega
 ·exact hk.mono (λi e=>by rcases e with rfl|rfl;exact zpI M hv;exact znd M hv)
theorem zp3 (v:Wn) (bn cn gn:Nat) (pp:Option Addr) (sv:Value) (ks:List Value) (W' H':Nat) (w:World) (h:Z9 w v bn cn gn pp sv ks) (w1:1<=W') (w2:W'<=40) (h1:1<=H') (h2:H'<=20):
 Calls Tryz.prog 114 #[.pointer (some ⟨bn,0,none⟩),.int .i64 W',.int .i64 H'] w λe w'=>∃g',e=.returned (.tuple #[])/\Zi w' cn g' W' H' (H'*W') (ZJ v.W v.H W' v.G)/\zd (λi=>i=cn\/i=gn) w w'/\w.heap.size<=g':=by
 have HV:=zH h;have f5:=h.f5;clear h;go_in;go_wp2_with fail;go_at_call 119;refine(ztv cn gn v.W v.H _ W' H' v.G _ HV.out.gr HV.out.wf w1 w2 h1 h2).mono ?_;rintro e w' ⟨g',rfl,G2,K2,hg⟩;have HG2:=zH G2;clear G2;go_wp2_with fail;go_end0;exact⟨g',rfl,HG2.out,K2,hg⟩
theorem zua (ok:ZK L last) (w:World) (h:zI w M L last N s t) (v:Wn) (hv:v∈L) (hp:v.par≠-1) (W' H':Nat) (hs:ZC W' H'=true):
 Calls Tryz.prog 51 #[.pointer (some ⟨M.t 0,0,none⟩),.int .i64 v.n,.int .i64 W',.int .i64 H'] w (zad M L (zY L v.n (λu=>{u with W:=W',H:=H',G:=ZJ v.W v.H W' v.G})) last N s t w (.int .i64 0)):=by
 have HD:=zH h;have hz:=Zs.1 hs;clear h;go_in;go_wp2_with (first|(go_at_call 111;refine sM (zdY ok _ HD.out v hv hp) ?_)|(go_at_call 46;refine sM (zcg _ _ _) ?_));go_at_call 114;refine(zp3 v _ _ _ _ _ _ W' H' _ (HD.out.win v hv) (by omega) (by omega) (by omega) (by omega)).mono ?_;rintro e wa ⟨g',rfl,G1,K1,hg⟩;have HP:Hid (zad M L (zY L v.n (λu=>{u with W:=W',H:=H',G:=ZJ v.W v.H W' v.G})) last N s t w (.int .i64 0) (.returned (.int .i64 0)) wa):=HD.out.shape ok hv W' H' g' _ (HD.out.win v hv).wf.sized G1 K1 hg _;clear G1 K1 HD;go_wp2_with fail;go_ret;exact HP.out
theorem zp4 (ok:ZK L last) (w:World) (h:zI w M L last N s t) (n x y:Int) (he:zU L n≠0):
 Calls Tryz.prog 51 #[.pointer (some ⟨M.t 0,0,none⟩),.int .i64 n,.int .i64 x,.int .i64 y] w λe w'=>e=.returned (.int .i64 (zU L n))/\w'=w:=by
 have HD:=zH h;have hk:=zdC ok w h n he;have Hk:=zH hk;clear h hk;generalize zU L n=er at *;go_in;go_wp2_with (first|(go_at_call 111;refine sM Hk.out ?_));go_ret;exact⟨rfl,rfl⟩
theorem zn4 (ok:ZK L last) (w:World) (h:zI w M L last N s t) (v:Wn) (hv:v∈L) (hp:v.par≠-1) (x y:Int) (hs:ZC x y=false):
 Calls Tryz.prog 51 #[.pointer (some ⟨M.t 0,0,none⟩),.int .i64 v.n,.int .i64 x,.int .i64 y] w λe w'=>e=.returned (.int .i64 3)/\w'=w:=by
 have HD:=zH h;clear h;go_in;go_wp2_with (first|(go_at_call 111;refine sM (zdY ok _ HD.out v hv hp) ?_)|(go_at_call 46;refine sM (zcg _ _ _) ?_));go_ret;exact⟨rfl,rfl⟩
theorem zn5 (ok:ZK L last) (w:World) (h:zI w M L last N s t) (n:Int) (he:zU L n≠0):
 Calls Tryz.prog 49 #[.pointer (some ⟨M.t 0,0,none⟩),.int .i64 n] w λe w'=>e=.returned (.int .i64 (zU L n))/\w'=w:=by
 have HD:=zH h;have hk:=zdC ok w h n he;have Hk:=zH hk;clear h hk;generalize zU L n=er at *;go_in;go_wp2_with (first|(go_at_call 111;refine sM Hk.out ?_));go_ret;exact⟨rfl,rfl⟩
noncomputable def delL (L:List Wn) (n:Int):List Wn:=L.filter (λu=>!(@decide (Sub L n u.n) (Classical.propDecidable _)))
theorem zbY {n:Int} {u:Wn}:u∈delL L n↔u∈L/\¬Sub L n u.n:=by simp[delL]
theorem zn6 (nd:(L.map Wn.n).Nodup) {v:Wn} {u:Wn} (hu:u∈delL L v.n):zy (delL L v.n) u.n=zy (zG L v.n) u.n:=by
 unfold zy delL zG;rw[List.filter_filter,List.filter_filter];refine List.filter_congr λk hk=>?_;by_cases hp:k.par=u.n
 ·have hu':=(zbY.1 hu).2;by_cases he:k.n=v.n
  ·have:Sub L v.n v.n:=.refl;simp[hp,he,this]
  ·have:¬Sub L v.n k.n:=λhs=>by
    rcases hs.last with e|⟨k',hk',e,hs'⟩
    ·exact he e
    ·obtain rfl:=zak nd hk' hk e;exact hu' (hp ▸ hs')
   simp[hp,he,this]
 ·simp[hp]
theorem zI.sub {w:World} {L1:List Wn} (h:zI w M L last N s t) (hs:∀u∈L1,u∈L) (hk:∀u∈L1,zy L1 u.n=zy L u.n):zI w M L1 last N s t:=
 ⟨h.b0,h.b1,h.scr,λu hu=>by rw[hk u hu];exact h.win u (hs u hu),zni hs h.inj,λi hi=>h.two i (zjI hs hi)⟩
theorem zp5 {v:Wn} {u:Wn} (hu:u∈delL L v.n):u∈zG L v.n:=by
 obtain⟨h1,h2⟩:=zbY.1 hu;exact Za.2 ⟨h1,λe=>h2 (e ▸ .refl)⟩
theorem zsi (ok:ZK L last) (w:World) (h:zI w M L last N s t) (v o:Wn) (hv:v∈L) (ho:o∈L) (hp:v.par=o.n) (hvo:v.n≠o.n) (hp1:v.par≠-1):
 Calls Tryz.prog 49 #[.pointer (some ⟨M.t 0,0,none⟩),.int .i64 v.n] w (zad M L (delL L v.n) last N s t w (.int .i64 0)):=by
 obtain⟨rk,K,T⟩:=ok.tree;have Hnd:=zH T.nd;have HD:=zH h;clear h T;have Hdel:Hid (Calls Tryz.prog 112 #[M.ptr v.n] w (zad M L (delL L v.n) last N s t w (.tuple #[]))):=by
  show Calls _ _ _ _ _;go_in;go_wp2_with fail;go_at_call 152;refine(zjJ ok _ HD.out v o hv ho hp hvo).mono ?_;rintro e w1 ⟨sp,rfl,D1,V1,K1,hso,_⟩;have hblk:=zdB (M:=M) hso;have HP:Hid (zad M L (delL L v.n) last N s t w (.tuple #[]) (.returned (.tuple #[])) w1):=⟨M.setS o.n sp,rfl,D1.sub (λu hu=>zp5 hu) (λu hu=>zn6 Hnd.out hu),rfl,K1,λi ⟨p,hp',e⟩=>.inl (zjI (λu hu=>(zbY.1 hu).1) ⟨p,hp',by rw[←hblk];exact e⟩)⟩;clear D1 V1 K1 hblk hso;go_wp2_with fail;go_end0;exact HP.out
 go_in;go_wp2_with (first|(go_at_call 111;refine sM (zdY ok _ HD.out v hv hp1) ?_));go_at_call 112;refine Hdel.out.mono ?_;rintro e w1 hl;obtain⟨rfl,HP⟩:=hl.ret (r':=.int .i64 0);have HP1:=zH HP;clear hl HP;go_wp2_with fail;go_ret;exact HP1.out
end
def zbZ (M:Mm) (L L':List Wn) (last':Int) (s':Rs) (t':Pt) (w:World) (r:Value) (e:Ending) (w':World):Prop:=
 ∃M' N',e=.returned r/\zI w' M' L' last' N' s' t'/\M'.t 0=M.t 0/\zd (M.own L) w w'/\∀i,M'.own L' i->M.own L i\/w.heap.size<=i
def Mm.setT (M:Mm) (g:Nat):Mm:={M with t:=λk=>if k=4 then g else M.t k}
section
variable {M:Mm} {L:List Wn} {last:Int} {N:Nat} {s:Rs} {t:Pt}
theorem zad.toG {L':List Wn} {last':Int} {w w':World} {r:Value} {e:Ending} (h:zad M L L' last' N s t w r e w'):zbZ M L L' last' s t w r e w':=by
 obtain⟨M',e,D,ht,K,O⟩:=h;exact⟨M',N,e,D,by rw[ht],K,O⟩
theorem zkF {g:Nat} {p:Pl} (hp:p≠.top 4):(M.setT g).blk p=M.blk p:=by
 cases p with
 |top k=>
  show some (if k=4 then g else M.t k)=some (M.t k);rw[if_neg (λe=>hp (by rw[e]))]
 |win m k=>
  match k with
  |0=>rfl
  |1=>rfl
  |2=>rfl
  |k+3=>rfl
theorem zI.rescreen {w w':World} {g' N':Nat} {s':Rs} {t':Pt} (h:zI w M L last N s t) (hp:zh w' (M.t 2) (M.t 3) g' N' s' t') (hk:zd (λi=>i=M.t 2\/i=M.t 3\/i=M.t 4) w w') (hg:g'=M.t 4\/w.heap.size<=g') (r:Value):
 zbZ M L L last s' t' w r (.returned r) w':=by
 have kp:∀(p:Pl) (i:Nat),p.ok L->M.blk p=some i->p≠.top 2->p≠.top 3->p≠.top 4->w'.heap[i]?=w.heap[i]?:=λp i hp e n1 n2 n3=>hk.block i (h.lt ⟨p,hp,e⟩) (by
  rintro(e'|e'|e')
  ·exact h.ne (p:=p) (q:=.top 2) hp (show 2<5 by omega) e rfl n1 e'
  ·exact h.ne (p:=p) (q:=.top 3) hp (show 3<5 by omega) e rfl n2 e'
  ·exact h.ne (p:=p) (q:=.top 4) hp (show 4<5 by omega) e rfl n3 e')
 have hown:∀i,(M.setT g').own L i->M.own L i\/w.heap.size<=i:=λi ⟨p,hp',e⟩=>by
  by_cases e4:p=.top 4
  ·subst e4;obtain rfl:g'=i:=by simpa[Mm.blk,Mm.setT] using e
   rcases hg with rfl|hg
   ·exact .inl (Zg M L 4 (by omega))
   ·exact .inr hg
  ·exact .inl ⟨p,hp',by rw[←zkF e4];exact e⟩
 have h0:=h.two _ (Zg M L 0 (by omega));have h1:=h.lt (Zg M L 0 (by omega));refine⟨M.setT g',N',rfl,⟨(kp (.top 0) _ (show 0<5 by omega) rfl (by simp) (by simp) (by simp)).trans h.b0,(kp (.top 1) _ (show 1<5 by omega) rfl (by simp) (by simp) (by simp)).trans h.b1,hp,?_,?_,?_⟩,rfl,?_,hown⟩
 ·intro u hu;exact(h.win u hu).same (kp (.win u.n 0) _ ⟨by omega,u,hu,rfl⟩ rfl (by simp) (by simp) (by simp)) (kp (.win u.n 1) _ ⟨by omega,u,hu,rfl⟩ rfl (by simp) (by simp) (by simp)) (kp (.win u.n 2) _ ⟨by omega,u,hu,rfl⟩ rfl (by simp) (by simp) (by simp)) (λi hi=>kp (.win u.n 3) i ⟨by omega,u,hu,rfl⟩ hi (by simp) (by simp) (by simp))
 ·rcases hg with e|hg
  ·have:M.setT g'=M:=by
    unfold Mm.setT;have:(λk=>if k=4 then g' else M.t k)=M.t:=by funext k;split;(rename_i e';rw[e',e]);rfl
    rw[this]
   rw[this];exact h.inj
  ·exact zjF h.inj w.heap.size (λi hi=>h.lt hi) (λp=>p=.top 4) (λp hp' hn=>⟨hp',zkF hn⟩) (λp i _ e hb=>by
    subst e;obtain rfl:g'=i:=by simpa[Mm.blk,Mm.setT] using hb
    exact hg) (λp q i _ _ e1 e2 _ _=>by rw[e1,e2])
 ·intro i hi;rcases hown i hi with e|e
  ·exact h.two i e
  ·omega
 ·exact hk.mono (λi e=>by rcases e with rfl|rfl|rfl;exact Zg M L 2 (by omega);exact Zg M L 3 (by omega);exact Zg M L 4 (by omega))
theorem zbZ.after {M1:Mm} {L1 L2:List Wn} {last2:Int} {s2:Rs} {t2:Pt} {w w1 w2:World} {r:Value} {e:Ending} (ht:M1.t 0=M.t 0) (K:zd (M.own L) w w1) (O:∀i,M1.own L1 i->M.own L i\/w.heap.size<=i) (h:zbZ M1 L1 L2 last2 s2 t2 w1 r e w2):zbZ M L L2 last2 s2 t2 w r e w2:=by
 obtain⟨M',N',e,D,ht',K',O'⟩:=h;refine⟨M',N',e,D,ht'.trans ht,K.trans K' (λi hi ho=>?_),λi hi=>?_⟩
 ·rcases O i ho with a|a
  ·exact a
  ·omega
 ·rcases O' i hi with a|a
  ·exact O i a
  ·exact .inr (Nat.le_trans K.size a)
theorem zub (ok:ZK L last) (w:World) (h:zI w M L last N s t) (v:Wn) (hv:v∈L) (W' H':Nat) (w1:1<=W') (w2:W'<=40) (h1:1<=H') (h2:H'<=20):
 Calls Tryz.prog 114 #[M.ptr v.n,.int .i64 W',.int .i64 H'] w (zad M L (zY L v.n (λu=>{u with W:=W',H:=H',G:=ZJ v.W v.H W' v.G})) last N s t w (.tuple #[])):=by
 have hw:=zp3 v (M.b v.n) (M.c v.n) (M.g v.n) (M.pp v.par) (M.s v.n) (M.ptrs (zy L v.n)) W' H' w (h.win v hv) w1 w2 h1 h2;refine hw.mono ?_;rintro e wa ⟨g',rfl,G1,K1,hg⟩;exact h.shape ok hv W' H' g' _ (h.win v hv).wf.sized G1 K1 hg _
theorem zsj (ok:ZK L last) (w:World) (h:zI w M L last N s t) (hs:s.Ok) (v:Wn) (hv:v∈L) (hv0:v.n=0) (W' H':Nat) (w1:1<=W') (w2:W'<=40) (h1:1<=H') (h2:H'<=20):
 Calls Tryz.prog 57 #[.pointer (some ⟨M.t 1,0,none⟩),.int .i64 W',.int .i64 H'] w (zbZ M L (zY L v.n (λu=>{u with W:=W',H:=H',G:=ZJ v.W v.H W' v.G})) last (zaB s W' H') t w (.tuple #[])):=by
 have HD:=zH h;have Hs:=zH hs;have d0:=h.d0;have d2:=h.d2;rw[←hv0] at d0;clear h hs hv0;have Hsh:=zH<|zub ok w HD.out v hv W' H' w1 w2 h1 h2
 go_in;go_wp2_with fail;go_at_call 114;refine Hsh.out.mono ?_;rintro e wa ⟨M1,rfl,D1,ht,K1,O1⟩;have HD1:=zH D1;have HK1:=zH K1;have HO1:=zH O1;have Ht:=zH ht;clear D1 K1 O1 ht d0 d2;have d2:=HD1.out.d2;rw[Ht.out] at d2;go_wp2_with fail;go_at_call 59;refine(znl (M.t 2) (M1.t 3) (M1.t 4) N s t W' H' _ (by rw[←Ht.out];exact HD1.out.scr) Hs.out w1 w2 h1 h2).mono ?_;rintro e wb ⟨g',N',rfl,P2,K2,hg⟩;have HP:Hid (zbZ M L (zY L v.n (λu=>{u with W:=W',H:=H',G:=ZJ v.W v.H W' v.G})) last (zaB s W' H') t w (.tuple #[]) (.returned (.tuple #[])) wb):=by
  rw[←Ht.out] at P2 K2;exact zbZ.after (by rw[Ht.out]) HK1.out HO1.out (HD1.out.rescreen P2 K2 hg (.tuple #[]))
 clear P2 K2 hg d2;go_wp2_with fail;go_end0;exact HP.out
theorem zsk (ok:ZK L last) (w:World) (h:zI w M L last N s t) (hs:s.Ok) (v:Wn) (hv:v∈L) (hv0:v.n=0) (W' H':Nat) (hz:ZC W' H'=true):
 Calls Tryz.prog 18 #[.pointer (some ⟨M.t 0,0,none⟩),.int .i64 W',.int .i64 H'] w (zbZ M L (zY L v.n (λu=>{u with W:=W',H:=H',G:=ZJ v.W v.H W' v.G})) last (zaB s W' H') t w (.int .i64 0)):=by
 have HD:=zH h;have Hs:=zH hs;have c0:=h.c0;have hz':=Zs.1 hz;clear h hs;go_in;go_wp2_with (first|(go_at_call 41;refine sM (ziJ _ HD.out) ?_)|(go_at_call 46;refine sM (zcg _ _ _) ?_));go_at_call 57;refine(zsj ok _ HD.out Hs.out v hv hv0 W' H' (by omega) (by omega) (by omega) (by omega)).mono ?_;rintro e wa ⟨M',N',rfl,D,ht,K,O⟩;have HP:Hid (zbZ M L (zY L v.n (λu=>{u with W:=W',H:=H',G:=ZJ v.W v.H W' v.G})) last (zaB s W' H') t w (.int .i64 0) (.returned (.int .i64 0)) wa):=⟨M',N',rfl,D,ht,K,O⟩;clear D K O ht;go_wp2_with fail;go_ret;exact HP.out
theorem zn8 (w:World) (h:zI w M L last N s t) (x y:Int) (hz:ZC x y=false):
 Calls Tryz.prog 18 #[.pointer (some ⟨M.t 0,0,none⟩),.int .i64 x,.int .i64 y] w λe w'=>e=.returned (.int .i64 3)/\w'=w:=by
 have HD:=zH h;clear h;go_in;go_wp2_with (first|(go_at_call 41;refine sM (ziJ _ HD.out) ?_)|(go_at_call 46;refine sM (zcg _ _ _) ?_));go_ret;exact⟨rfl,rfl⟩
end
end
end Go.Proofs.YtjlfibhbfdckpaaGreatDoor
