import Derived.Test.YtjlfibhbfdckpaaGreatDoorV33
import Derived.Test.YtjlfibhbfdckpaaGreatDoorV36
namespace Go.Proofs.YtjlfibhbfdckpaaGreatDoor
set_option maxHeartbeats 64000000
set_option maxRecDepth 100000
section
open Go.RowKit
structure Tt (fx fy:Nat) (a:Option Addr->Array Value) (L:List Wn) (last:Int) (L':List Wn) (last':Int) (r:Value) (c:Int) (f:Rs->Rs):Prop where
 ok:ZK L' last'
 le:last<=last'/\last'<=last+1
 pens:zah L->zah L'
 fit:∀s:Rs,Fits L s.W s.H->Fits L' (f s).W (f s).H
 fl:∀s:Rs,s.Fl->(f s).Fl
 so:∀s:Rs,s.Ok->(f s).Ok
 err:c≠0->L'=L/\last'=last
 x:∀(w:World) (M:Mm) (N:Nat) (s:Rs) (t:Pt),s.Ok->zI w M L last N s t->Calls Tryz.prog fx (a (some ⟨M.t 0,0,none⟩)) w (zbZ M L L' last' (f s) t w r)
 y:∀(w:World) (R:Rm),Zq w R L last->Calls Tryz.prog fy (a (some ⟨R.d,0,none⟩)) w (Zr R L L' last' w r)
section
variable {L:List Wn} {last:Int}
theorem Tt.no {fx fy:Nat} {a:Option Addr->Array Value} {r:Value} {c:Int} (ok:ZK L last)
 (hx:∀(w:World) (M:Mm) (N:Nat) (s:Rs) (t:Pt),zI w M L last N s t->Calls Tryz.prog fx (a (some ⟨M.t 0,0,none⟩)) w λe w'=>e=.returned r/\Below w.heap.size w w')
 (hy:∀(w:World) (R:Rm),Zq w R L last->Calls Tryz.prog fy (a (some ⟨R.d,0,none⟩)) w λe w'=>e=.returned r/\Below w.heap.size w w'):Tt fx fy a L last L last r c id:=
 ⟨ok,⟨Int.le_refl _,by omega⟩,id,λ_ h=>h,λ_ h=>h,λ_ h=>h,λ_=>⟨rfl,rfl⟩,λw M N s t _ h=>(hx w M N s t h).mono (by rintro e w' ⟨rfl,b⟩;exact(zad.stay h b).toG),λw R h=>(hy w R h).mono (by rintro e w' ⟨rfl,b⟩;exact Zr.stay h b)⟩
theorem Tt.yes {fx fy:Nat} {a:Option Addr->Array Value} {r:Value} {L':List Wn} {last':Int} (ok:ZK L' last') (le:last<=last'/\last'<=last+1) (pens:zah L->zah L') (fit:∀W H:Nat,Fits L W H->Fits L' W H)
 (hx:∀(w:World) (M:Mm) (N:Nat) (s:Rs) (t:Pt),zI w M L last N s t->Calls Tryz.prog fx (a (some ⟨M.t 0,0,none⟩)) w (zad M L L' last' N s t w r))
 (hy:∀(w:World) (R:Rm),Zq w R L last->Calls Tryz.prog fy (a (some ⟨R.d,0,none⟩)) w (Zr R L L' last' w r)):Tt fx fy a L last L' last' r 0 id:=
 ⟨ok,le,pens,λ_ h=>fit _ _ h,λ_ h=>h,λ_ h=>h,λh=>absurd rfl h,λw M N s t _ h=>(hx w M N s t h).mono (λ_ _ p=>p.toG),hy⟩
theorem zuq (ok:ZK L last) (n:Int) (b:Bool):∃L' c,Tt 53 101 (λp=>#[.pointer p,.int .i64 n,.bool b]) L last L' last (.int .i64 c) c id:=by
 by_cases he:zU L n=0
 ·obtain⟨v,hv,rfl,v0,hp,_,j,j0,hj,hne⟩:=zdG ok he;exact⟨zY L v.n (λu=>{u with sh:=b}),0,.yes (zdi ok (λ_ _ e=>e) (λ_ _ _=>rfl) (λu hu _=>ok.pl u hu)) ⟨Int.le_refl _,by omega⟩ (λp=>p.upd _ (λu hu _=>p u hu)) (λ_ _ q=>q.upd _ (λ_ _ _ e=>⟨e,rfl,rfl⟩)) (λw M N s t h=>zvz ok w h v hv hp b) (λw R h=>zug ok w h v j hj hne j0 b)⟩
 ·exact⟨L,_,.no ok (λw M N s t h=>Calls.below (zsb ok w h n b he)) (λw R h=>Calls.below (zqd ok w h n b he))⟩
theorem zur (ok:ZK L last) (n x y:Int):∃L' c,Tt 50 98 (λp=>#[.pointer p,.int .i64 n,.int .i64 x,.int .i64 y]) L last L' last (.int .i64 c) c id:=by
 by_cases he:zU L n=0
 ·obtain⟨v,hv,rfl,v0,hp,_,j,j0,hj,hne⟩:=zdG ok he;cases hpl:Zt x y with
  |true=>exact⟨zY L v.n (λu=>{u with x:=x,y:=y}),0,.yes (zdi ok (λ_ _ e=>e) (λ_ _ _=>rfl) (λu hu _=>zbH.1 hpl)) ⟨Int.le_refl _,by omega⟩ (λp=>p.upd _ (λu hu _=>p u hu)) (λ_ _ q=>q.upd _ (λ_ _ _ e=>⟨e,rfl,rfl⟩)) (λw M N s t h=>ztF ok w h v hv hp x y hpl) (λw R h=>zqa ok w h v j hj hne j0 x y hpl)⟩
  |false=>exact⟨L,4,.no ok (λw M N s t h=>Calls.below (zpS ok w h v hv hp x y hpl)) (λw R h=>Calls.below (zoe ok w h v j hj hne j0 x y hpl))⟩
 ·exact⟨L,_,.no ok (λw M N s t h=>Calls.below (zsc ok w h n x y he)) (λw R h=>Calls.below (zqe ok w h n x y he))⟩
theorem zsJ (ok:ZK L last) (n x y:Int):∃L' c,Tt 51 99 (λp=>#[.pointer p,.int .i64 n,.int .i64 x,.int .i64 y]) L last L' last (.int .i64 c) c id:=by
 by_cases he:zU L n=0
 ·obtain⟨v,hv,rfl,v0,hp,_,j,j0,hj,hne⟩:=zdG ok he;cases hpl:ZC x y with
  |true=>
   obtain⟨a1,a2,a3,a4⟩:=Zs.1 hpl;obtain⟨x,rfl⟩:=Int.eq_ofNat_of_zero_le (show 0<=x by omega);obtain⟨y,rfl⟩:=Int.eq_ofNat_of_zero_le (show 0<=y by omega);exact⟨zY L v.n (λu=>{u with W:=x,H:=y,G:=ZJ v.W v.H x v.G}),0,.yes (zdi ok (λ_ _ e=>e) (λ_ _ _=>rfl) (λu hu _=>ok.pl u hu)) ⟨Int.le_refl _,by omega⟩ (λp=>p.upd _ (λu hu _=>(p v hv).sized x y)) (λ_ _ q=>q.upd _ (λu hu e0 e=>absurd (e0.symm.trans e) v0)) (λw M N s t h=>zua ok w h v hv hp x y hpl) (λw R h=>zsn ok w h v j hj hne j0 x y hpl)⟩
  |false=>exact⟨L,3,.no ok (λw M N s t h=>Calls.below (zn4 ok w h v hv hp x y hpl)) (λw R h=>Calls.below (zmh ok w h v j hj hne j0 x y hpl))⟩
 ·exact⟨L,_,.no ok (λw M N s t h=>Calls.below (zp4 ok w h n x y he)) (λw R h=>Calls.below (zoc ok w h n x y he))⟩
theorem zsK (ok:ZK L last) (n:Int) (b:Bool):∃L' c,Tt 52 100 (λp=>#[.pointer p,.int .i64 n,.bool b]) L last L' last (.int .i64 c) c id:=by
 by_cases he:zU L n=0
 ·obtain⟨v,hv,rfl,v0,hp,⟨o,ho,hpo,hvo⟩,j,j0,hj,hne⟩:=zdG ok he;cases b with
  |true=>
   refine⟨zcy L v o.n,0,.yes (zp7 ok hv v0 ho (zuc ok hv ho hpo)) ⟨Int.le_refl _,by omega⟩ (λp=>p.top hv _) (λ_ _ q=>q.top hv _) (λw M N s t h=>zpR ok w h v hv hp true _ (zpN ok w h v o hv ho hpo hvo)) (λw R h=>?_)⟩;rw[←hpo];exact zot ok w h v j hj hne j0
  |false=>exact⟨zcK L v,0,.yes (zud ok hv v0) ⟨Int.le_refl _,by omega⟩ (λp=>p.bot hv) (λ_ _ q=>q.bot hv) (λw M N s t h=>zpR ok w h v hv hp false _ (znV ok w h v o hv ho hpo hvo)) (λw R h=>zmr ok w h v j hj hne j0)⟩
 ·exact⟨L,_,.no ok (λw M N s t h=>Calls.below (zpT ok w h n b he)) (λw R h=>Calls.below (zod ok w h n b he))⟩
theorem zqJ (ok:ZK L last) (n:Int):∃L' c,Tt 49 97 (λp=>#[.pointer p,.int .i64 n]) L last L' last (.int .i64 c) c id:=by
 by_cases he:zU L n=0
 ·obtain⟨v,hv,rfl,v0,hp,⟨o,ho,hpo,hvo⟩,j,j0,hj,hne⟩:=zdG ok he;exact⟨delL L v.n,0,.yes (zue ok hv v0) ⟨Int.le_refl _,by omega⟩ (λp=>p.del _) (λ_ _ q=>q.del _) (λw M N s t h=>zsi ok w h v o hv ho hpo hvo hp) (λw R h=>zqn ok w h v j hj hne j0)⟩
 ·exact⟨L,_,.no ok (λw M N s t h=>Calls.below (zn5 ok w h n he)) (λw R h=>Calls.below (zmg ok w h n he))⟩
theorem zus (ok:ZK L last) (n m:Int):∃L' c,Tt 54 102 (λp=>#[.pointer p,.int .i64 n,.int .i64 m]) L last L' last (.int .i64 c) c id:=by
 obtain⟨rk,K,T⟩:=ok.tree;cases hm:zch L m with
 |false=>exact⟨L,1,.no ok (λw M N s t h=>Calls.below (znW ok w h n m hm)) (λw R h=>Calls.below (zmn ok w h n m hm))⟩
 |true=>
  obtain⟨q,hq,rfl,k,hk,hnk⟩:=zhN ok hm;by_cases he:zU L n=0
  ·obtain⟨v,hv,rfl,v0,hp,⟨o,ho,hpo,hvo⟩,j,j0,hj,hne⟩:=zdG ok he;by_cases hs:Sub L v.n q.n
   ·exact⟨L,5,.no ok (λw M N s t h=>Calls.below (znX T ok w h v q hv hq hp hs)) (λw R h=>zms ok w h v q j k hj hne j0 hk hnk hs)⟩
   ·exact⟨zcy L v q.n,0,.yes (zp7 ok hv v0 hq hs) ⟨Int.le_refl _,by omega⟩ (λp=>p.top hv _) (λ_ _ q=>q.top hv _) (λw M N s t h=>zvC T ok w h v o q hv ho hq hpo hvo hs) (λw R h=>zuj ok w h v q j k hj hne j0 hk hnk hs)⟩
  ·exact⟨L,_,.no ok (λw M N s t h=>Calls.below (zsd ok w h n q hq he)) (λw R h=>Calls.below (zqg ok w h n q k hk hnk he))⟩
theorem zgN (ok:ZK L last) (l0:0<=last) (hl:last<9223372036854775807) (v:Wn) (hv:v∈L) (x y:Int) (W H:Nat) (hpl:Zt x y=true) (hs:ZC W H=true) (hlen:L.length<16):
 Tt 48 96 (λp=>#[.pointer p,.int .i64 v.n,.int .i64 x,.int .i64 y,.int .i64 W,.int .i64 H]) L last (L ++ [⟨last+1,v.n,x,y,true,W,H,λ_ _=>blk Pn.plain⟩]) (last+1) (.tuple #[.int .i64 (last+1),.int .i64 0]) 0 id:=by
 obtain⟨rk,K,T⟩:=ok.tree;obtain⟨j,hj,hne,_⟩:=zfk T.nd hv;have hz:=Zs.1 hs;exact .yes (znT ok hv hlen x y W H _ (zbH.1 hpl) true) ⟨by omega,Int.le_refl _⟩ (λp=>p.app (zhV W H)) (λ_ _ q=>q.app (λe=>absurd e (by show¬last+1=0;omega))) (λw M N s t h=>zr3 ok w h v hv x y W H (by omega) (by omega) (by omega) (by omega) hpl hlen hl) (λw R h=>zqi ok w h v j hj hne x y W H hpl hs hlen hl l0)
theorem zqK (ok:ZK L last) (l0:0<=last) (hl:last<9223372036854775807) (n x y W H:Int):∃L' last' a c,Tt 48 96 (λp=>#[.pointer p,.int .i64 n,.int .i64 x,.int .i64 y,.int .i64 W,.int .i64 H]) L last L' last' (.tuple #[.int .i64 a,.int .i64 c]) c id:=by
 by_cases he:zdj L n x y W H=0
 ·unfold zdj at he;cases hn:zch L n with
  |false=>rw[if_pos hn] at he;omega
  |true=>
   rw[if_neg (by simp[hn])] at he;cases hp:Zt x y with
   |false=>rw[if_pos hp] at he;omega
   |true=>
    rw[if_neg (by simp[hp])] at he;cases hs:ZC W H with
    |false=>rw[if_pos hs] at he;omega
    |true=>
     rw[if_neg (by simp[hs])] at he;by_cases h16:16<=L.length
     ·rw[if_pos h16] at he;omega
     ·obtain⟨v,hv,rfl,_⟩:=zhN ok hn;obtain⟨a1,a2,a3,a4⟩:=Zs.1 hs;obtain⟨W,rfl⟩:=Int.eq_ofNat_of_zero_le (show 0<=W by omega);obtain⟨H,rfl⟩:=Int.eq_ofNat_of_zero_le (show 0<=H by omega);exact⟨_,_,_,_,zgN ok l0 hl v hv x y W H hp hs (by omega)⟩
 ·exact⟨L,last,_,_,.no ok (λw M N s t h=>Calls.below (znY ok w h n x y W H he)) (λw R h=>Calls.below (zmm ok w h n x y W H he))⟩
theorem zhW (ok:ZK L last) (v:Wn) (hv:v∈L) (x y:Int) (hpl:Zt x y=true) (b:ByteArray) (hb:b.size<=200) (p:Pn) (hpn:zdA p=true):
 Tt 31 32 (λq=>#[.pointer q,.int .i64 v.n,.int .i64 x,.int .i64 y,.string b,p.agg]) L last (zY L v.n (λu=>{u with G:=writeAll v.W v.H y p x (Zh b b.size 0) v.G})) last (.int .i64 0) 0 id:=by
 obtain⟨rk,K,T⟩:=ok.tree;obtain⟨j,hj,hne,_⟩:=zfk T.nd hv;exact .yes (zdi ok (λ_ _ e=>e) (λ_ _ _=>rfl) (λu hu _=>ok.pl u hu)) ⟨Int.le_refl _,by omega⟩ (λq=>q.upd _ (λu hu e=>by rw[zak T.nd hu hv e];exact zbP.writeAll (znx hpn) _ _ (q v hv))) (λ_ _ q=>q.upd _ (λ_ _ _ e=>⟨e,rfl,rfl⟩)) (λw M N s t h=>zt6 ok w h v hv x y hpl b hb p hpn) (λw R h=>zss ok w h v j hj hne x y hpl b hb p hpn)
theorem zsL (ok:ZK L last) (n x y:Int) (b:ByteArray) (p:Pn):∃L' c,Tt 31 32 (λq=>#[.pointer q,.int .i64 n,.int .i64 x,.int .i64 y,.string b,p.agg]) L last L' last (.int .i64 c) c id:=by
 by_cases he:zex L n x y b p=0
 ·unfold zex at he;cases hn:zch L n with
  |false=>rw[if_pos hn] at he;omega
  |true=>
   rw[if_neg (by simp[hn])] at he;cases hp:Zt x y with
   |false=>rw[if_pos hp] at he;omega
   |true=>
    rw[if_neg (by simp[hp])] at he;by_cases hb:200<b.size
    ·rw[if_pos hb] at he;omega
    ·rw[if_neg hb] at he;cases hpn:zdA p with
     |false=>rw[if_pos hpn] at he;omega
     |true=>
      obtain⟨v,hv,rfl,_⟩:=zhN ok hn;exact⟨_,_,zhW ok v hv x y hp b (by omega) p hpn⟩
 ·exact⟨L,_,.no ok (λw M N s t h=>zpU ok w h n x y b p he) (λw R h=>zoh ok w h n x y b p he)⟩
theorem zut (ok:ZK L last) (n x y ww hh:Int) (p:Pn):∃L' c,Tt 33 34 (λq=>#[.pointer q,.int .i64 n,.int .i64 x,.int .i64 y,.int .i64 ww,.int .i64 hh,p.agg]) L last L' last (.int .i64 c) c id:=by
 by_cases he:zgD L n x y ww hh p=0
 ·unfold zgD at he;cases hn:zch L n with
  |false=>rw[if_pos hn] at he;omega
  |true=>
   rw[if_neg (by simp[hn])] at he;cases hp:Zt x y with
   |false=>rw[if_pos hp] at he;omega
   |true=>
    rw[if_neg (by simp[hp])] at he;cases hr:zef ww hh with
    |false=>rw[if_pos hr] at he;omega
    |true=>
     rw[if_neg (by simp[hr])] at he;cases hpn:zdA p with
     |false=>rw[if_pos hpn] at he;omega
     |true=>
      obtain⟨v,hv,rfl,j,hj,hne⟩:=zhN ok hn;exact⟨zY L v.n (λu=>{u with G:=zaY v.W x y ww hh p v.G v.H}),_,.yes (zdi ok (λ_ _ e=>e) (λ_ _ _=>rfl) (λu hu _=>ok.pl u hu)) ⟨Int.le_refl _,by omega⟩ (λq=>q.upd _ (λu hu e=>by obtain⟨rk,K,T⟩:=ok.tree;rw[zak T.nd hu hv e];exact(q v hv).fill x y ww hh (znx hpn) _)) (λ_ _ q=>q.upd _ (λ_ _ _ e=>⟨e,rfl,rfl⟩)) (λw M N s t h=>zvE ok w h v hv x y ww hh p hp hr hpn) (λw R h=>zuh ok w h v j hj hne x y ww hh p hp hr hpn)⟩
 ·exact⟨L,_,.no ok (λw M N s t h=>zsg ok w h n x y ww hh p he) (λw R h=>zqh ok w h n x y ww hh p he)⟩
theorem zqL (ok:ZK L last) (n k:Int):∃L' c,Tt 35 36 (λq=>#[.pointer q,.int .i64 n,.int .i64 k]) L last L' last (.int .i64 c) c id:=by
 cases hn:zch L n with
 |false=>exact⟨L,1,.no ok (λw M N s t h=>Calls.below (zn2 ok w h n k hn)) (λw R h=>Calls.below (zmi ok w h n k hn))⟩
 |true=>
  obtain⟨v,hv,rfl,j,hj,hne⟩:=zhN ok hn;exact⟨zY L v.n (λu=>{u with G:=zo 0 ((v.H:Int)-1) k Pn.plain v.G}),_,.yes (zdi ok (λ_ _ e=>e) (λ_ _ _=>rfl) (λu hu _=>ok.pl u hu)) ⟨Int.le_refl _,by omega⟩ (λq=>q.upd _ (λu hu e=>by obtain⟨rk,K,T⟩:=ok.tree;rw[zak T.nd hu hv e];exact(q v hv).scroll 0 _ k (by omega) (by omega) zfS)) (λ_ _ q=>q.upd _ (λ_ _ _ e=>⟨e,rfl,rfl⟩)) (λw M N s t h=>zsf ok w h v hv k) (λw R h=>zqb ok w h v j hj hne k)⟩
theorem zqM (ok:ZK L last) (x y:Int):∃L' c,Tt 18 37 (λq=>#[.pointer q,.int .i64 x,.int .i64 y]) L last L' last (.int .i64 c) c (zgZ x y):=by
 obtain⟨rk,K,T⟩:=ok.tree;cases hz:ZC x y with
 |false=>
  have e:zgZ x y=id:=by funext s;unfold zgZ;rw[hz];rfl
  rw[e];exact⟨L,3,.no ok (λw M N s t h=>Calls.below (zn8 w h x y hz)) (λw R h=>Calls.below (zmj w R.d x y hz))⟩
 |true=>
  have e:zgZ x y=λs=>zaB s x.toNat y.toNat:=by funext s;unfold zgZ;rw[hz];rfl
  rw[e];obtain⟨a1,a2,a3,a4⟩:=Zs.1 hz;obtain⟨x,rfl⟩:=Int.eq_ofNat_of_zero_le (show 0<=x by omega);obtain⟨y,rfl⟩:=Int.eq_ofNat_of_zero_le (show 0<=y by omega);obtain⟨r,t',e,h0,h1,h2⟩:=T.head;have hr:r∈L:=by rw[e];exact List.mem_cons_self
  simp only[Int.toNat_natCast];refine⟨_,_,⟨zdi (n:=r.n) (f:=λu=>{u with W:=x,H:=y,G:=ZJ r.W r.H x r.G}) ok (λ_ _ e=>e) (λ_ _ _=>rfl) (λu hu _=>ok.pl u hu),⟨Int.le_refl _,by omega⟩,λp=>p.upd _ (λu hu _=>(p r hr).sized x y),λs h=>?_,λs h=>zmw h (by omega) (by omega) (by omega) (by omega),λs h=>zcT h (by omega) (by omega) (by omega) (by omega),λh=>absurd rfl h,λw M N s t hs h=>zsk ok w h hs r hr h0 x y hz,λw R h=>zqc ok w h r (by rw[e];rfl) x y hz⟩⟩;intro v hv hv0;unfold zY at hv;obtain⟨u,hu,rfl⟩:=List.mem_map.1 hv;split at hv0
  ·rename_i eu;rw[if_pos eu];exact⟨rfl,rfl⟩
  ·rename_i eu;exact absurd (hv0.trans h0.symm) eu
end
end
end Go.Proofs.YtjlfibhbfdckpaaGreatDoor
