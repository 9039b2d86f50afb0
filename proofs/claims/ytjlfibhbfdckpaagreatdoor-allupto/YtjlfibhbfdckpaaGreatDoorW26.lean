import Derived.Test.YtjlfibhbfdckpaaGreatDoorW25
import Derived.Shelf.Strings.OnBuilder
import Derived.Shelf.Strconv.Itoa3
namespace Go.Proofs.YtjlfibhbfdckpaaGreatDoor
set_option maxHeartbeats 64000000
set_option maxRecDepth 100000
section
open Go.RowKit
structure Tt (fx fy:Nat) (a:Option Addr->Array Value) (L:List Wn) (last:Int) (L':List Wn) (last':Int) (r:Value) (c:Int) (f:Rs->Rs):Prop where
 ok:ZK L' last'
 le:last<=last'/\last'<=last+1
 pens:zah L->zah L'
 fit:∀s:Rs,Fits L s.W s.H->Fits L' (f s).W (f s).H
 fl:∀s:Rs,s.Fl->(f s).Fl
 so:∀s:Rs,s.Ok->(f s).Ok
 err:c≠0->L'=L/\last'=last
 x:∀(w:World) (M:Mm) (N:Nat) (s:Rs) (t:Pt),s.Ok->zI w M L last N s t->Calls Tryz.prog fx (a (some ⟨M.t 0,0,none⟩)) w (zbZ M L L' last' (f s) t w r)
 y:∀(w:World) (R:Rm),Zq w R L last->Calls Tryz.prog fy (a (some ⟨R.d,0,none⟩)) w (Zr R L L' last' w r)
section
variable {L:List Wn} {last:Int}
theorem Tt.no {fx fy:Nat} {a:Option Addr->Array Value} {r:Value} {c:Int} (ok:ZK L last)
 (hx:∀(w:World) (M:Mm) (N:Nat) (s:Rs) (t:Pt),zI w M L last N s t->Calls Tryz.prog fx (a (some ⟨M.t 0,0,none⟩)) w λe w'=>e=.returned r/\Below w.heap.size w w')
 (hy:∀(w:World) (R:Rm),Zq w R L last->Calls Tryz.prog fy (a (some ⟨R.d,0,none⟩)) w λe w'=>e=.returned r/\Below w.heap.size w w'):Tt fx fy a L last L last r c id:=
 ⟨ok,⟨Int.le_refl _,by omega⟩,id,λ_ h=>h,λ_ h=>h,λ_ h=>h,λ_=>⟨rfl,rfl⟩,λw M N s t _ h=>(hx w M N s t h).mono (by rintro e w' ⟨rfl,b⟩;exact(zad.stay h b).toG),λw R h=>(hy w R h).mono (by rintro e w' ⟨rfl,b⟩;exact Zr.stay h b)⟩
theorem Tt.yes {fx fy:Nat} {a:Option Addr->Array Value} {r:Value} {L':List Wn} {last':Int} (ok:ZK L' last') (le:last<=last'/\last'<=last+1) (pens:zah L->zah L') (fit:∀W H:Nat,Fits L W H->Fits L' W H)
 (hx:∀(w:World) (M:Mm) (N:Nat) (s:Rs) (t:Pt),zI w M L last N s t->Calls Tryz.prog fx (a (some ⟨M.t 0,0,none⟩)) w (zad M L L' last' N s t w r))
 (hy:∀(w:World) (R:Rm),Zq w R L last->Calls Tryz.prog fy (a (some ⟨R.d,0,none⟩)) w (Zr R L L' last' w r)):Tt fx fy a L last L' last' r 0 id:=
 ⟨ok,le,pens,λ_ h=>fit _ _ h,λ_ h=>h,λ_ h=>h,λh=>absurd rfl h,λw M N s t _ h=>(hx w M N s t h).mono (λ_ _ p=>p.toG),hy⟩
theorem zuq (ok:ZK L last) (n:Int) (b:Bool):∃L' c,Tt 53 101 (λp=>#[.pointer p,.int .i64 n,.bool b]) L last L' last (.int .i64 c) c id:=by
 by_cases he:zU L n=0
 ·obtain⟨v,hv,rfl,v0,hp,_,j,j0,hj,hne⟩:=zdG ok he;exact⟨zY L v.n (λu=>{u with sh:=b}),0,.yes (zdi ok (λ_ _ e=>e) (λ_ _ _=>rfl) (λu hu _=>ok.pl u hu)) ⟨Int.le_refl _,by omega⟩ (λp=>p.upd _ (λu hu _=>p u hu)) (λ_ _ q=>q.upd _ (λ_ _ _ e=>⟨e,rfl,rfl⟩)) (λw M N s t h=>zvz ok w h v hv hp b) (λw R h=>zug ok w h v j hj hne j0 b)⟩
 ·exact⟨L,_,.no ok (λw M N s t h=>Calls.below (zsb ok w h n b he)) (λw R h=>Calls.below (zqd ok w h n b he))⟩
theorem zur (ok:ZK L last) (n x y:Int):∃L' c,Tt 50 98 (λp=>#[.pointer p,.int .i64 n,.int .i64 x,.int .i64 y]) L last L' last (.int .i64 c) c id:=by
 by_cases he:zU L n=0
 ·obtain⟨v,hv,rfl,v0,hp,_,j,j0,hj,hne⟩:=zdG ok he;cases hpl:Zt x y with
  |true=>exact⟨zY L v.n (λu=>{u with x:=x,y:=y}),0,.yes (zdi ok (λ_ _ e=>e) (λ_ _ _=>rfl) (λu hu _=>zbH.1 hpl)) ⟨Int.le_refl _,by omega⟩ (λp=>p.upd _ (λu hu _=>p u hu)) (λ_ _ q=>q.upd _ (λ_ _ _ e=>⟨e,rfl,rfl⟩)) (λw M N s t h=>ztF ok w h v hv hp x y hpl) (λw R h=>zqa ok w h v j hj hne j0 x y hpl)⟩
  |false=>exact⟨L,4,.no ok (λw M N s t h=>Calls.below (zpS ok w h v hv hp x y hpl)) (λw R h=>Calls.below (zoe ok w h v j hj hne j0 x y hpl))⟩
 ·exact⟨L,_,.no ok (λw M N s t h=>Calls.below (zsc ok w h n x y he)) (λw R h=>Calls.below (zqe ok w h n x y he))⟩
theorem zsJ (ok:ZK L last) (n x y:Int):∃L' c,Tt 51 99 (λp=>#[.pointer p,.int .i64 n,.int .i64 x,.int .i64 y]) L last L' last (.int .i64 c) c id:=by
 by_cases he:zU L n=0
 ·obtain⟨v,hv,rfl,v0,hp,_,j,j0,hj,hne⟩:=zdG ok he;cases hpl:ZC x y with
  |true=>
   obtain⟨a1,a2,a3,a4⟩:=Zs.1 hpl;obtain⟨x,rfl⟩:=Int.eq_ofNat_of_zero_le (show 0<=x by omega);obtain⟨y,rfl⟩:=Int.eq_ofNat_of_zero_le (show 0<=y by omega);exact⟨zY L v.n (λu=>{u with W:=x,H:=y,G:=ZJ v.W v.H x v.G}),0,.yes (zdi ok (λ_ _ e=>e) (λ_ _ _=>rfl) (λu hu _=>ok.pl u hu)) ⟨Int.le_refl _,by omega⟩ (λp=>p.upd _ (λu hu _=>(p v hv).sized x y)) (λ_ _ q=>q.upd _ (λu hu e0 e=>absurd (e0.symm.trans e) v0)) (λw M N s t h=>zua ok w h v hv hp x y hpl) (λw R h=>zsn ok w h v j hj hne j0 x y hpl)⟩
  |false=>exact⟨L,3,.no ok (λw M N s t h=>Calls.below (zn4 ok w h v hv hp x y hpl)) (λw R h=>Calls.below (zmh ok w h v j hj hne j0 x y hpl))⟩
 ·exact⟨L,_,.no ok (λw M N s t h=>Calls.below (zp4 ok w h n x y he)) (λw R h=>Calls.below (zoc ok w h n x y he))⟩
theorem zsK (ok:ZK L last) (n:Int) (b:Bool):∃L' c,Tt 52 100 (λp=>#[.pointer p,.int .i64 n,.bool b]) L last L' last (.int .i64 c) c id:=by
 by_cases he:zU L n=0
 ·obtain⟨v,hv,rfl,v0,hp,⟨o,ho,hpo,hvo⟩,j,j0,hj,hne⟩:=zdG ok he;cases b with
  |true=>
   refine⟨zcy L v o.n,0,.yes (zp7 ok hv v0 ho (zuc ok hv ho hpo)) ⟨Int.le_refl _,by omega⟩ (λp=>p.top hv _) (λ_ _ q=>q.top hv _) (λw M N s t h=>zpR ok w h v hv hp true _ (zpN ok w h v o hv ho hpo hvo)) (λw R h=>?_)⟩;rw[←hpo];exact zot ok w h v j hj hne j0
  |false=>exact⟨zcK L v,0,.yes (zud ok hv v0) ⟨Int.le_refl _,by omega⟩ (λp=>p.bot hv) (λ_ _ q=>q.bot hv) (λw M N s t h=>zpR ok w h v hv hp false _ (znV ok w h v o hv ho hpo hvo)) (λw R h=>zmr ok w h v j hj hne j0)⟩
 ·exact⟨L,_,.no ok (λw M N s t h=>Calls.below (zpT ok w h n b he)) (λw R h=>Calls.below (zod ok w h n b he))⟩
theorem zqJ (ok:ZK L last) (n:Int):∃L' c,Tt 49 97 (λp=>#[.pointer p,.int .i64 n]) L last L' last (.int .i64 c) c id:=by
 by_cases he:zU L n=0
 ·obtain⟨v,hv,rfl,v0,hp,⟨o,ho,hpo,hvo⟩,j,j0,hj,hne⟩:=zdG ok he;exact⟨delL L v.n,0,.yes (zue ok hv v0) ⟨Int.le_refl _,by omega⟩ (λp=>p.del _) (λ_ _ q=>q.del _) (λw M N s t h=>zsi ok w h v o hv ho hpo hvo hp) (λw R h=>zqn ok w h v j hj hne j0)⟩
 ·exact⟨L,_,.no ok (λw M N s t h=>Calls.below (zn5 ok w h n he)) (λw R h=>Calls.below (zmg ok w h n he))⟩
theorem zus (ok:ZK L last) (n m:Int):∃L' c,Tt 54 102 (λp=>#[.pointer p,.int .i64 n,.int .i64 m]) L last L' last (.int .i64 c) c id:=by
 obtain⟨rk,K,T⟩:=ok.tree;cases hm:zch L m with
 |false=>exact⟨L,1,.no ok (λw M N s t h=>Calls.below (znW ok w h n m hm)) (λw R h=>Calls.below (zmn ok w h n m hm))⟩
 |true=>
  obtain⟨q,hq,rfl,k,hk,hnk⟩:=zhN ok hm;by_cases he:zU L n=0
  ·obtain⟨v,hv,rfl,v0,hp,⟨o,ho,hpo,hvo⟩,j,j0,hj,hne⟩:=zdG ok he;by_cases hs:Sub L v.n q.n
   ·exact⟨L,5,.no ok (λw M N s t h=>Calls.below (znX T ok w h v q hv hq hp hs)) (λw R h=>zms ok w h v q j k hj hne j0 hk hnk hs)⟩
   ·exact⟨zcy L v q.n,0,.yes (zp7 ok hv v0 hq hs) ⟨Int.le_refl _,by omega⟩ (λp=>p.top hv _) (λ_ _ q=>q.top hv _) (λw M N s t h=>zvC T ok w h v o q hv ho hq hpo hvo hs) (λw R h=>zuj ok w h v q j k hj hne j0 hk hnk hs)⟩
  ·exact⟨L,_,.no ok (λw M N s t h=>Calls.below (zsd ok w h n q hq he)) (λw R h=>Calls.below (zqg ok w h n q k hk hnk he))⟩
theorem zgN (ok:ZK L last) (l0:0<=last) (hl:last<9223372036854775807) (v:Wn) (hv:v∈L) (x y:Int) (W H:Nat) (hpl:Zt x y=true) (hs:ZC W H=true) (hlen:L.length<16):
 Tt 48 96 (λp=>#[.pointer p,.int .i64 v.n,.int .i64 x,.int .i64 y,.int .i64 W,.int .i64 H]) L last (L ++ [⟨last+1,v.n,x,y,true,W,H,λ_ _=>blk Pn.plain⟩]) (last+1) (.tuple #[.int .i64 (last+1),.int .i64 0]) 0 id:=by
 obtain⟨rk,K,T⟩:=ok.tree;obtain⟨j,hj,hne,_⟩:=zfk T.nd hv;have hz:=Zs.1 hs;exact .yes (znT ok hv hlen x y W H _ (zbH.1 hpl) true) ⟨by omega,Int.le_refl _⟩ (λp=>p.app (zhV W H)) (λ_ _ q=>q.app (λe=>absurd e (by show¬last+1=0;omega))) (λw M N s t h=>zr3 ok w h v hv x y W H (by omega) (by omega) (by omega) (by omega) hpl hlen hl) (λw R h=>zqi ok w h v j hj hne x y W H hpl hs hlen hl l0)
theorem zqK (ok:ZK L last) (l0:0<=last) (hl:last<9223372036854775807) (n x y W H:Int):∃L' last' a c,Tt 48 96 (λp=>#[.pointer p,.int .i64 n,.int .i64 x,.int .i64 y,.int .i64 W,.int .i64 H]) L last L' last' (.tuple #[.int .i64 a,.int .i64 c]) c id:=by
 by_cases he:zdj L n x y W H=0
 ·unfold zdj at he;cases hn:zch L n with
  |false=>rw[if_pos hn] at he;omega
  |true=>
   rw[if_neg (by simp[hn])] at he;cases hp:Zt x y with
   |false=>rw[if_pos hp] at he;omega
   |true=>
    rw[if_neg (by simp[hp])] at he;cases hs:ZC W H with
    |false=>rw[if_pos hs] at he;omega
    |true=>
     rw[if_neg (by simp[hs])] at he;by_cases h16:16<=L.length
     ·rw[if_pos h16] at he;omega
     ·obtain⟨v,hv,rfl,_⟩:=zhN ok hn;obtain⟨a1,a2,a3,a4⟩:=Zs.1 hs;obtain⟨W,rfl⟩:=Int.eq_ofNat_of_zero_le (show 0<=W by omega);obtain⟨H,rfl⟩:=Int.eq_ofNat_of_zero_le (show 0<=H by omega);exact⟨_,_,_,_,zgN ok l0 hl v hv x y W H hp hs (by omega)⟩
 ·exact⟨L,last,_,_,.no ok (λw M N s t h=>Calls.below (znY ok w h n x y W H he)) (λw R h=>Calls.below (zmm ok w h n x y W H he))⟩
theorem zhW (ok:ZK L last) (v:Wn) (hv:v∈L) (x y:Int) (hpl:Zt x y=true) (b:ByteArray) (hb:b.size<=200) (p:Pn) (hpn:zdA p=true):
 Tt 31 32 (λq=>#[.pointer q,.int .i64 v.n,.int .i64 x,.int .i64 y,.string b,p.agg]) L last (zY L v.n (λu=>{u with G:=writeAll v.W v.H y p x (Zh b b.size 0) v.G})) last (.int .i64 0) 0 id:=by
 obtain⟨rk,K,T⟩:=ok.tree;obtain⟨j,hj,hne,_⟩:=zfk T.nd hv;exact .yes (zdi ok (λ_ _ e=>e) (λ_ _ _=>rfl) (λu hu _=>ok.pl u hu)) ⟨Int.le_refl _,by omega⟩ (λq=>q.upd _ (λu hu e=>by rw[zak T.nd hu hv e];exact zbP.writeAll (znx hpn) _ _ (q v hv))) (λ_ _ q=>q.upd _ (λ_ _ _ e=>⟨e,rfl,rfl⟩)) (λw M N s t h=>zt6 ok w h v hv x y hpl b hb p hpn) (λw R h=>zss ok w h v j hj hne x y hpl b hb p hpn)
theorem zsL (ok:ZK L last) (n x y:Int) (b:ByteArray) (p:Pn):∃L' c,Tt 31 32 (λq=>#[.pointer q,.int .i64 n,.int .i64 x,.int .i64 y,.string b,p.agg]) L last L' last (.int .i64 c) c id:=by
 by_cases he:zex L n x y b p=0
 ·unfold zex at he;cases hn:zch L n with
  |false=>rw[if_pos hn] at he;omega
  |true=>
   rw[if_neg (by simp[hn])] at he;cases hp:Zt x y with
   |false=>rw[if_pos hp] at he;omega
   |true=>
    rw[if_neg (by simp[hp])] at he;by_cases hb:200<b.size
    ·rw[if_pos hb] at he;omega
    ·rw[if_neg hb] at he;cases hpn:zdA p with
     |false=>rw[if_pos hpn] at he;omega
     |true=>
      obtain⟨v,hv,rfl,_⟩:=zhN ok hn;exact⟨_,_,zhW ok v hv x y hp b (by omega) p hpn⟩
 ·exact⟨L,_,.no ok (λw M N s t h=>zpU ok w h n x y b p he) (λw R h=>zoh ok w h n x y b p he)⟩
theorem zut (ok:ZK L last) (n x y ww hh:Int) (p:Pn):∃L' c,Tt 33 34 (λq=>#[.pointer q,.int .i64 n,.int .i64 x,.int .i64 y,.int .i64 ww,.int .i64 hh,p.agg]) L last L' last (.int .i64 c) c id:=by
 by_cases he:zgD L n x y ww hh p=0
 ·unfold zgD at he;cases hn:zch L n with
  |false=>rw[if_pos hn] at he;omega
  |true=>
   rw[if_neg (by simp[hn])] at he;cases hp:Zt x y with
   |false=>rw[if_pos hp] at he;omega
   |true=>
    rw[if_neg (by simp[hp])] at he;cases hr:zef ww hh with
    |false=>rw[if_pos hr] at he;omega
    |true=>
     rw[if_neg (by simp[hr])] at he;cases hpn:zdA p with
     |false=>rw[if_pos hpn] at he;omega
     |true=>
      obtain⟨v,hv,rfl,j,hj,hne⟩:=zhN ok hn;exact⟨zY L v.n (λu=>{u with G:=zaY v.W x y ww hh p v.G v.H}),_,.yes (zdi ok (λ_ _ e=>e) (λ_ _ _=>rfl) (λu hu _=>ok.pl u hu)) ⟨Int.le_refl _,by omega⟩ (λq=>q.upd _ (λu hu e=>by obtain⟨rk,K,T⟩:=ok.tree;rw[zak T.nd hu hv e];exact(q v hv).fill x y ww hh (znx hpn) _)) (λ_ _ q=>q.upd _ (λ_ _ _ e=>⟨e,rfl,rfl⟩)) (λw M N s t h=>zvE ok w h v hv x y ww hh p hp hr hpn) (λw R h=>zuh ok w h v j hj hne x y ww hh p hp hr hpn)⟩
 ·exact⟨L,_,.no ok (λw M N s t h=>zsg ok w h n x y ww hh p he) (λw R h=>zqh ok w h n x y ww hh p he)⟩
theorem zqL (ok:ZK L last) (n k:Int):∃L' c,Tt 35 36 (λq=>#[.pointer q,.int .i64 n,.int .i64 k]) L last L' last (.int .i64 c) c id:=by
 cases hn:zch L n with
 |false=>exact⟨L,1,.no ok (λw M N s t h=>Calls.below (zn2 ok w h n k hn)) (λw R h=>Calls.below (zmi ok w h n k hn))⟩
 |true=>
  obtain⟨v,hv,rfl,j,hj,hne⟩:=zhN ok hn;exact⟨zY L v.n (λu=>{u with G:=zo 0 ((v.H:Int)-1) k Pn.plain v.G}),_,.yes (zdi ok (λ_ _ e=>e) (λ_ _ _=>rfl) (λu hu _=>ok.pl u hu)) ⟨Int.le_refl _,by omega⟩ (λq=>q.upd _ (λu hu e=>by obtain⟨rk,K,T⟩:=ok.tree;rw[zak T.nd hu hv e];exact(q v hv).scroll 0 _ k (by omega) (by omega) zfS)) (λ_ _ q=>q.upd _ (λ_ _ _ e=>⟨e,rfl,rfl⟩)) (λw M N s t h=>zsf ok w h v hv k) (λw R h=>zqb ok w h v j hj hne k)⟩
theorem zqM (ok:ZK L last) (x y:Int):∃L' c,Tt 18 37 (λq=>#[.pointer q,.int .i64 x,.int .i64 y]) L last L' last (.int .i64 c) c (zgZ x y):=by
 obtain⟨rk,K,T⟩:=ok.tree;cases hz:ZC x y with
 |false=>
  have e:zgZ x y=id:=by funext s;unfold zgZ;rw[hz];rfl
  rw[e];exact⟨L,3,.no ok (λw M N s t h=>Calls.below (zn8 w h x y hz)) (λw R h=>Calls.below (zmj w R.d x y hz))⟩
 |true=>
  have e:zgZ x y=λs=>zaB s x.toNat y.toNat:=by funext s;unfold zgZ;rw[hz];rfl
  rw[e];obtain⟨a1,a2,a3,a4⟩:=Zs.1 hz;obtain⟨x,rfl⟩:=Int.eq_ofNat_of_zero_le (show 0<=x by omega);obtain⟨y,rfl⟩:=Int.eq_ofNat_of_zero_le (show 0<=y by omega);obtain⟨r,t',e,h0,h1,h2⟩:=T.head;have hr:r∈L:=by rw[e];exact List.mem_cons_self
  simp only[Int.toNat_natCast];refine⟨_,_,⟨zdi (n:=r.n) (f:=λu=>{u with W:=x,H:=y,G:=ZJ r.W r.H x r.G}) ok (λ_ _ e=>e) (λ_ _ _=>rfl) (λu hu _=>ok.pl u hu),⟨Int.le_refl _,by omega⟩,λp=>p.upd _ (λu hu _=>(p r hr).sized x y),λs h=>?_,λs h=>zmw h (by omega) (by omega) (by omega) (by omega),λs h=>zcT h (by omega) (by omega) (by omega) (by omega),λh=>absurd rfl h,λw M N s t hs h=>zsk ok w h hs r hr h0 x y hz,λw R h=>zqc ok w h r (by rw[e];rfl) x y hz⟩⟩;intro v hv hv0;unfold zY at hv;obtain⟨u,hu,rfl⟩:=List.mem_map.1 hv;split at hv0
  ·rename_i eu;rw[if_pos eu];exact⟨rfl,rfl⟩
  ·rename_i eu;exact absurd (hv0.trans h0.symm) eu
end
end
section
open Go.RowKit
attribute [local go_sem ↓] Go.wp_at_zero Go.wp_at_succ
theorem zcM {B:Nat} {a b:World} (h:Below B a b) (n:Nat):Below B a (b.drewN n):=⟨h.os,h.tape,h.output,h.size,h.block⟩
abbrev Sp.agg (p:Sp):Value:=.agg #[.int .i64 p.x,.int .i64 p.y,.bool p.pend,.int .i64 p.pen.f,.int .i64 p.pen.b,.bool p.pen.bo,.bool p.pen.un,.bool p.pen.re]
abbrev Wy.agg (v:Wy):Value:=.agg #[.string ⟨v.b.toArray⟩,.int .i64 v.k,.int .i64 v.e.x,.int .i64 v.e.y,.bool v.e.pend,.int .i64 v.e.pen.f,.int .i64 v.e.pen.b,.bool v.e.pen.bo,.bool v.e.pen.un,.bool v.e.pen.re]
abbrev Gl.agg (g:Gl):Value:=.agg #[.int .i64 g.x,.int .i64 g.y,.int .i64 g.pen.f,.int .i64 g.pen.b,.bool g.pen.bo,.bool g.pen.un,.bool g.pen.re,.bool g.letter]
theorem zhX (p:Sp) (x y:Int) (w:World):
 Calls Tryz.prog 239 #[p.agg,.int .i64 x,.int .i64 y] w λe w'=>e=.returned (p.move x y).agg/\Below w.heap.size w w':=by
 go_in;go_wp2;exact bodyPost_ret (v:=(p.move x y).agg) (by simp[results,Tryz.results239,go_sem,Sp.move]) rfl ⟨rfl,((Below.refl _ _).alloc (Nat.le_refl _) _).alloc (by simp) _⟩
theorem zuu (p:Sp) (n:Pn) (w:World):
 Calls Tryz.prog 240 #[p.agg,n.agg] w λe w'=>e=.returned (p.ink n).agg/\Below w.heap.size w w':=by
 go_in;go_wp2;exact bodyPost_ret (v:=(p.ink n).agg) (by simp[results,Tryz.results240,go_sem,Sp.ink]) rfl ⟨rfl,(((Below.refl _ _).alloc (Nat.le_refl _) _).alloc (by simp) _).alloc (by simp;omega) _⟩
theorem zhY (p:Sp) (w:World) (h0:0<=p.y) (h1:p.y<=1000):
 Calls Tryz.prog 238 #[p.agg] w λe w'=>e=.returned (.tuple #[.int .i64 p.lx,.int .i64 p.ly])/\Below w.heap.size w w':=by
 obtain⟨x,y,pd,n⟩:=p;simp only at h0 h1;cases pd with
 |true=>
  go_in;go_wp2;go_quiet (fail);go_wp2;go_ret2;exact⟨by simp[Sp.lx,Sp.ly],zcM ((Below.refl _ _).alloc (Nat.le_refl _) _) _⟩
 |false=>
  go_in;go_wp2;go_quiet (fail);go_wp2;go_ret2;exact⟨by simp[Sp.lx,Sp.ly],zcM ((Below.refl _ _).alloc (Nat.le_refl _) _) _⟩
end
end Go.Proofs.YtjlfibhbfdckpaaGreatDoor
namespace Go.Proofs
set_option maxHeartbeats 64000000
set_option maxRecDepth 100000
open Go.Shelf
def Tryz.lays156_ren:Go.Shelf.Ren:=⟨fun|156=>232|165=>245|166=>215|169=>179|240=>231|241=>249|276=>244|277=>251|n=>n,fun|31=>229|9=>9|3=>3|4=>4|0=>0|20=>20|72=>192|76=>226|70=>190|37=>177|75=>225|127=>212|164=>274|5=>5|80=>56|n=>n,fun|n=>n⟩
theorem Tryz.lays156:Go.Proofs.Lays.n156 Tryz.prog Tryz.lays156_ren:={
 mixed:=by kernel_rfl
 f156:=Tryz.func232.trans (congrArg some (by kernel_rfl))
 f165:=Tryz.func245.trans (congrArg some (by kernel_rfl))
 f166:=Tryz.func215.trans (congrArg some (by kernel_rfl))
 f169:=Tryz.func179.trans (congrArg some (by kernel_rfl))
 f240:=Tryz.func231.trans (congrArg some (by kernel_rfl))
 f241:=Tryz.func249.trans (congrArg some (by kernel_rfl))
 f276:=Tryz.func244.trans (congrArg some (by kernel_rfl))
 f277:=Tryz.func251.trans (congrArg some (by kernel_rfl))
 t0:=Tryz.underlying0
 a0:=Tryz.isAgg0
 z0:=Tryz.sizeOf0
 v0:=Tryz.zeroValue0
 t3:=Tryz.underlying3
 a3:=Tryz.isAgg3
 z3:=Tryz.sizeOf3
 v3:=Tryz.zeroValue3
 t4:=Tryz.underlying4
 a4:=Tryz.isAgg4
 z4:=Tryz.sizeOf4
 v4:=Tryz.zeroValue4
 t9:=Tryz.underlying9
 a9:=Tryz.isAgg9
 z9:=Tryz.sizeOf9
 v9:=Tryz.zeroValue9
 t20:=Tryz.underlying20
 a20:=Tryz.isAgg20
 z20:=Tryz.sizeOf20
 v20:=Tryz.zeroValue20
 t31:=Tryz.underlying229
 a31:=Tryz.isAgg229
 z31:=Tryz.sizeOf229
 v31:=Tryz.zeroValue229
 t37:=Tryz.underlying177
 a37:=Tryz.isAgg177
 z37:=Tryz.sizeOf177
 v37:=Tryz.zeroValue177
 t70:=Tryz.underlying190
 a70:=Tryz.isAgg190
 z70:=Tryz.sizeOf190
 v70:=Tryz.zeroValue190
 t72:=Tryz.underlying192
 a72:=Tryz.isAgg192
 z72:=Tryz.sizeOf192
 v72:=Tryz.zeroValue192
 t75:=Tryz.underlying225
 a75:=Tryz.isAgg225
 z75:=Tryz.sizeOf225
 v75:=Tryz.zeroValue225
 t76:=Tryz.underlying226
 a76:=Tryz.isAgg226
 z76:=Tryz.sizeOf226
 v76:=Tryz.zeroValue226
 t127:=Tryz.underlying212
 a127:=Tryz.isAgg212
 z127:=Tryz.sizeOf212
 v127:=Tryz.zeroValue212
 t164:=Tryz.underlying274
 a164:=Tryz.isAgg274
 z164:=Tryz.sizeOf274
 v164:=Tryz.zeroValue274}
theorem Tryz.Builder_Extra_156:Builder.Extra Tryz.prog Tryz.lays156_ren:={
 sizeBuilder:=by kernel_rfl
 liesBuilder:=by kernel_rfl
 t5:=Tryz.underlying5
 a5:=Tryz.isAgg5
 z5:=Tryz.sizeOf5
 v5:=Tryz.zeroValue5
 infoByte:=by kernel_rfl
 cellsByte:=by kernel_rfl
 sizeByte:=by kernel_rfl
 neB5:=by decide}
open Go.RowKit in
theorem Tryz.strings_Join_none (a:Option Addr) (c:Nat) (sep:ByteArray) (w:World):
 Calls Tryz.prog 232 #[.slice a 0 c,.string sep] w λe w'=>e=.returned (.string ⟨#[]⟩)/\w'=w:=Any.strings_Join_none Tryz.lays156 Tryz.Builder_Extra_156 a c sep w
open Go.RowKit in
theorem Tryz.strings_Join (bk o c:Nat) (xs:List ByteArray) (sep:ByteArray) (w:World) (hcells:∀(j:Nat) x,xs[j]?=some x->w.cell? ⟨bk,o+j,none⟩=some (.string x)) (hbk:bk<w.heap.size) (hN:xs.length<=140737488355328) (hcap:xs.length<=c) (hlen:(Lib.join (xs.map (·.data.toList)) sep.data.toList).length<=140737488355328):
 Calls Tryz.prog 232 #[.slice (some ⟨bk,o,none⟩) xs.length c,.string sep] w λe w'=>e=.returned (.string ⟨(Lib.join (xs.map (·.data.toList)) sep.data.toList).toArray⟩)/\Below w.heap.size w w':=Any.strings_Join Tryz.lays156 Tryz.Builder_Extra_156 bk o c xs sep w hcells hbk hN hcap hlen
def Tryz.lays171_ren:Go.Shelf.Ren:=⟨fun|171=>236|243=>248|246=>250|283=>252|284=>253|285=>254|286=>255|129=>257|317=>256|318=>258|319=>259|320=>260|337=>261|338=>262|n=>n,fun|3=>3|9=>9|2=>2|4=>4|171=>278|0=>0|53=>279|37=>177|5=>5|173=>282|212=>285|51=>286|20=>20|213=>287|46=>273|232=>290|233=>291|n=>n,fun|17=>3|18=>4|19=>5|n=>n⟩
theorem Tryz.lays171:Go.Proofs.Lays.n171 Tryz.prog Tryz.lays171_ren:={
 mixed:=by kernel_rfl
 f129:=Tryz.func257.trans (congrArg some (by kernel_rfl))
 f171:=Tryz.func236.trans (congrArg some (by kernel_rfl))
 f243:=Tryz.func248.trans (congrArg some (by kernel_rfl))
 f246:=Tryz.func250.trans (congrArg some (by kernel_rfl))
 f283:=Tryz.func252.trans (congrArg some (by kernel_rfl))
 f284:=Tryz.func253.trans (congrArg some (by kernel_rfl))
 f285:=Tryz.func254.trans (congrArg some (by kernel_rfl))
 f286:=Tryz.func255.trans (congrArg some (by kernel_rfl))
 f317:=Tryz.func256.trans (congrArg some (by kernel_rfl))
 f318:=Tryz.func258.trans (congrArg some (by kernel_rfl))
 f319:=Tryz.func259.trans (congrArg some (by kernel_rfl))
 f320:=Tryz.func260.trans (congrArg some (by kernel_rfl))
 f337:=Tryz.func261.trans (congrArg some (by kernel_rfl))
 f338:=Tryz.func262.trans (congrArg some (by kernel_rfl))
 t0:=Tryz.underlying0
 a0:=Tryz.isAgg0
 z0:=Tryz.sizeOf0
 v0:=Tryz.zeroValue0
 t2:=Tryz.underlying2
 a2:=Tryz.isAgg2
 z2:=Tryz.sizeOf2
 v2:=Tryz.zeroValue2
 t3:=Tryz.underlying3
 a3:=Tryz.isAgg3
 z3:=Tryz.sizeOf3
 v3:=Tryz.zeroValue3
 t4:=Tryz.underlying4
 a4:=Tryz.isAgg4
 z4:=Tryz.sizeOf4
 v4:=Tryz.zeroValue4
 t5:=Tryz.underlying5
 a5:=Tryz.isAgg5
 z5:=Tryz.sizeOf5
 v5:=Tryz.zeroValue5
 t9:=Tryz.underlying9
 a9:=Tryz.isAgg9
 z9:=Tryz.sizeOf9
 v9:=Tryz.zeroValue9
 t20:=Tryz.underlying20
 a20:=Tryz.isAgg20
 z20:=Tryz.sizeOf20
 v20:=Tryz.zeroValue20
 t37:=Tryz.underlying177
 a37:=Tryz.isAgg177
 z37:=Tryz.sizeOf177
 v37:=Tryz.zeroValue177
 t46:=Tryz.underlying273
 a46:=Tryz.isAgg273
 z46:=Tryz.sizeOf273
 v46:=Tryz.zeroValue273
 t51:=Tryz.underlying286
 a51:=Tryz.isAgg286
 z51:=Tryz.sizeOf286
 v51:=Tryz.zeroValue286
 t53:=Tryz.underlying279
 a53:=Tryz.isAgg279
 z53:=Tryz.sizeOf279
 v53:=Tryz.zeroValue279
 t171:=Tryz.underlying278
 a171:=Tryz.isAgg278
 z171:=Tryz.sizeOf278
 v171:=Tryz.zeroValue278
 t173:=Tryz.underlying282
 a173:=Tryz.isAgg282
 z173:=Tryz.sizeOf282
 v173:=Tryz.zeroValue282
 t212:=Tryz.underlying285
 a212:=Tryz.isAgg285
 z212:=Tryz.sizeOf285
 v212:=Tryz.zeroValue285
 t213:=Tryz.underlying287
 a213:=Tryz.isAgg287
 z213:=Tryz.sizeOf287
 t232:=Tryz.underlying290
 a232:=Tryz.isAgg290
 z232:=Tryz.sizeOf290
 v232:=Tryz.zeroValue290
 t233:=Tryz.underlying291
 a233:=Tryz.isAgg291
 z233:=Tryz.sizeOf291
 v233:=Tryz.zeroValue291
 g17:=by kernel_rfl
 g18:=by kernel_rfl
 g19:=by kernel_rfl}
open Go.RowKit Go.Sort Go.Lib in
theorem Tryz.strconv_Itoa_small (i:Nat) (hi:i<100) (w:World):
 Calls Tryz.prog 236 #[.int .i64 i] w λe w'=>e=.returned (.string ⟨(Lib.decDigits i).toArray⟩)/\w'=w:=Any.strconv_Itoa_small Tryz.lays171 i hi w
end Go.Proofs
namespace Go.Proofs.YtjlfibhbfdckpaaGreatDoor
set_option maxHeartbeats 64000000
set_option maxRecDepth 100000
section
open Go.RowKit
attribute [local go_sem ↓] Go.wp_at_zero Go.wp_at_succ
abbrev zaD (l:List UInt8):Value:=.string ⟨l.toArray⟩
theorem zsM (w:World):Calls Tryz.prog 218 #[.int .i64 1] w λe w'=>e=.returned (zaD (zbd (zb7 1)))/\w'=w:=by
 go_in;go_wp2;go_ret;exact⟨rfl,rfl⟩
theorem zhZ (n:Int) (h0:0<=n) (h1:n<100) (w:World):Calls Tryz.prog 218 #[.int .i64 n] w λe w'=>e=.returned (zaD (zbd (zb7 n)))/\w'=w:=by
 by_cases h:n=1
 ·subst h;exact zsM w
 ·obtain⟨m,rfl⟩:=Int.eq_ofNat_of_zero_le h0;have hm:m<100:=by omega
  have hc:=Tryz.strconv_Itoa_small m hm;have ht:zbd (zb7 (m:Int))=Lib.decDigits m:=by unfold zb7;rw[if_neg h];rfl
  rw[ht];go_in;go_wp2_with (go_at_call 236;refine sM (hc _) ?_);go_ret;exact⟨rfl,rfl⟩
theorem zdK (a b:List UInt8):(⟨a.toArray⟩:ByteArray) ++ ⟨b.toArray⟩=⟨(a++b).toArray⟩:=by
 zsq;simp
theorem zgk (c:UInt8) (ts:List (Option Nat)) (bk o cap:Nat) (w:World) (ht:zbN ts) (hl:ts.length<=8) (hcap:ts.length<=cap) (hne:ts≠[])
 (hc:∀(j:Nat) t,ts[j]?=some t->w.cell? ⟨bk,o+j,none⟩=some (zaD (zbd t))):
 Calls Tryz.prog 216 #[zaD [c],.slice (some ⟨bk,o,none⟩) ts.length cap] w λe w'=>e=.returned (zaD (zaP c ts))/\Below w.heap.size w w':=by
 have hbk:bk<w.heap.size:=by
  cases ts with
  |nil=>exact absurd rfl hne
  |cons t r=>exact World.block_lt_of_cell? _ _ (hc 0 t rfl)
 have hlen:(Lib.join (ts.map zbd) [59]).length<=1000:=by
  cases ts with
  |nil=>exact absurd rfl hne
  |cons t r=>
   have:=zdl c t r ht;simp only[zaP,List.length_append,List.length_cons,List.length_nil] at this hl;omega
 have hj:=Tryz.strings_Join bk o cap (ts.map (λt=>(⟨(zbd t).toArray⟩:ByteArray))) ⟨#[59]⟩ w (by
  intro j x hx;rw[List.getElem?_map] at hx;cases ht':ts[j]? with
  |none=>rw[ht'] at hx;cases hx
  |some t=>rw[ht'] at hx;simp at hx;rw[←hx];exact hc j t ht') hbk (by simp;omega) (by simpa using hcap)
 have em:(ts.map (λt=>(⟨(zbd t).toArray⟩:ByteArray))).map (·.data.toList)=ts.map zbd:=by simp
 rw[em,List.length_map] at hj;have es:(⟨#[59]⟩:ByteArray).data.toList=[59]:=rfl;rw[es] at hj;have hj':=hj (by omega);have HJ:Hid (Calls Tryz.prog 232 #[.slice (some ⟨bk,o,none⟩) ts.length cap,.string ⟨#[59]⟩] w λe w'=>e=.returned (zaD (Lib.join (ts.map zbd) [59]))/\Below w.heap.size w w'):=hj';have HL:=zH hlen;clear hj hj' em es hc hlen;have hs1:(⟨#[27,91]⟩:ByteArray) ++ ⟨(Lib.join (ts.map zbd) [59]).toArray⟩=⟨([27,91]++Lib.join (ts.map zbd) [59]).toArray⟩:=zdK [27,91] _;have hs2:(⟨([27,91]++Lib.join (ts.map zbd) [59]).toArray⟩:ByteArray) ++ ⟨#[c]⟩=⟨(zaP c ts).toArray⟩:=zdK ([27,91]++Lib.join (ts.map zbd) [59]) [c];have HS:=zH<|hs1 ▸ hs2
 clear hs1 hs2;go_in;go_wp2_with fail;go_at_call 232;refine HJ.out.mono ?_;rintro e w1 ⟨rfl,hb⟩;have HB:=zH hb;clear hb;have hz:=HL.out;generalize Lib.join (ts.map zbd) [59]=J at *;go_wp2_with fail;go_ret;refine⟨?_,HB.out⟩;rw[HS.out];rfl
theorem zsN (w:World) (c:UInt8) (t:Option Nat) (ht:zbN [t]):
 Calls Tryz.prog 216 #[zaD [c],.slice (some ⟨w.heap.size,0,none⟩) 1 1] (w.alloc (.cells #[zaD (zbd t)] 9)) λe w'=>e=.returned (zaD (zaP c [t]))/\Below w.heap.size w w':=by
 refine(zgk c [t] w.heap.size 0 1 _ ht (by simp) (by simp) (by simp) ?_).mono ?_
 ·intro j u h;rw[za (zf w _)];match j with
  |0=>simp at h;simp[h]
  |j+1=>simp at h
 ·rintro e w' ⟨he,hb⟩;exact⟨he,((Below.refl _ _).alloc (Nat.le_refl _) _).trans (hb.mono (by simp))⟩
theorem zwL (w:World) (c:UInt8) (t u:Option Nat) (ht:zbN [t,u]):
 Calls Tryz.prog 216 #[zaD [c],.slice (some ⟨w.heap.size,0,none⟩) 2 2] (w.alloc (.cells #[zaD (zbd t),zaD (zbd u)] 9)) λe w'=>e=.returned (zaD (zaP c [t,u]))/\Below w.heap.size w w':=by
 refine(zgk c [t,u] w.heap.size 0 2 _ ht (by simp) (by simp) (by simp) ?_).mono ?_
 ·intro j v h;rw[za (zf w _)];match j with
  |0=>simp at h;simp[h]
  |1=>simp at h;simp[h]
  |j+2=>simp at h
 ·rintro e w' ⟨he,hb⟩;exact⟨he,((Below.refl _ _).alloc (Nat.le_refl _) _).trans (hb.mono (by simp))⟩
theorem zuv (w:World) (c:UInt8):
 Calls Tryz.prog 216 #[zaD [c],.slice none 0 0] w λe w'=>e=.returned (zaD (zaP c []))/\w'=w:=by
 have hj:=Tryz.strings_Join_none none 0 ⟨#[59]⟩;go_in;go_wp2_with (go_at_call 232;refine sM (hj _) ?_);go_ret;exact⟨rfl,rfl⟩
theorem zmx (n:Int) (a b:UInt8) (w:World) (h1:-100<n) (h2:n<100):
 Calls Tryz.prog 201 #[.int .i64 n,zaD [a],zaD [b]] w λe w'=>e=.returned (zaD (Zy n a b))/\Below w.heap.size w w':=by
 by_cases hn:n<0
 ·have e:Zy n a b=zaP b [zb7 (-n)]:=by unfold Zy;rw[if_pos hn]
  rw[e];have hs:=zsN w b (zb7 (-n)) (ZD (by omega) Z3);go_in;go_wp2_with (first|(go_at_call 218;refine sM (zhZ (-n) (by omega) (by omega) _) ?_)|(go_at_call 216;refine hs.mono ?_;rintro e w1 ⟨rfl,hb⟩));go_ret;exact⟨rfl,hb⟩
 ·have e:Zy n a b=zaP a [zb7 n]:=by unfold Zy;rw[if_neg hn]
  rw[e];have hs:=zsN w a (zb7 n) (ZD (by omega) Z3);go_in;go_wp2_with (first|(go_at_call 218;refine sM (zhZ n (by omega) (by omega) _) ?_)|(go_at_call 216;refine hs.mono ?_;rintro e w1 ⟨rfl,hb⟩));go_ret;exact⟨rfl,hb⟩
theorem zuw (x y:Int) (w:World) (x0:0<=x) (x1:x<40) (y0:0<=y) (y1:y<20):
 Calls Tryz.prog 222 #[.int .i64 x,.int .i64 y] w λe w'=>e=.returned (zaD (zag x y))/\Below w.heap.size w w':=by
 by_cases hx:x=0
 ·have e:zag x y=zaP 72 [zb7 (y+1)]:=by unfold zag;rw[if_pos hx]
  rw[e];have hs:=zsN w 72 (zb7 (y+1)) (ZD (by omega) Z3);go_in;go_wp2_with (first|(go_at_call 218;refine sM (zhZ (y+1) (by omega) (by omega) _) ?_)|(go_at_call 216;refine hs.mono ?_;rintro e w1 ⟨rfl,hb⟩));go_ret;exact⟨rfl,hb⟩
 ·have e:zag x y=zaP 72 [zb7 (y+1),zb7 (x+1)]:=by unfold zag;rw[if_neg hx]
  rw[e];have hs:=zwL w 72 (zb7 (y+1)) (zb7 (x+1)) (ZD (by omega) (ZD (by omega) Z3));go_in;go_wp2_with (first|(go_at_call 218;refine sM (zhZ _ (by omega) (by omega) _) ?_)|(go_at_call 216;refine hs.mono ?_;rintro e w1 ⟨rfl,hb⟩));go_ret;exact⟨rfl,hb⟩
theorem zmy:(Tryz.prog.info? 9).bind (·.zero)=some (.string ⟨#[]⟩):=by kernel_rfl
theorem zmz:(Tryz.prog.info? 9).map (·.size)=some 1:=by kernel_rfl
theorem zk8:(Tryz.prog.info? 9).map (·.bytes)=some 16:=by kernel_rfl
theorem zk9:∃i:TypeInfo,Tryz.prog.info? 9=some i/\i.zero=some (.string ⟨#[]⟩)/\i.size=1/\i.bytes=16:=by
 have h1:=zmy;have h2:=zmz;have h3:=zk8;cases h:Tryz.prog.info? 9 with
 |none=>rw[h] at h2;simp at h2
 |some i=>rw[h] at h1 h2 h3;exact⟨i,rfl,by simpa using h1,by simpa using h2,by simpa using h3⟩
def zdn (ts:List (Option Nat)):List Value:=ts.map (λt=>zaD (zbd t))
theorem zoI (a b:List (Option Nat)):zdn (a++b)=zdn a++zdn b:=by simp[zdn]
structure zeJ (w:World) (TB base n1:Nat) (own0:Option Nat) (ts:List (Option Nat)):Prop where
 box:∃v,w.heap[TB]?=some (.cells #[v] 229)/\w.ownsRow base 9 1 v ts.length (zdn ts)/\(v.ownBlock=own0\/∃g,v.ownBlock=some g/\n1<=g)/\v.ownBlock≠some TB
 hn:n1<=w.heap.size
 hb:base<=TB
 tb:TB<n1
 len:ts.length<=8
 toks:zbN ts
abbrev zi6 (TB n1:Nat) (own0:Option Nat) (w w':World):Prop:=zd (λi=>i=TB\/own0=some i\/n1<=i) w w'
theorem ZH {w w':World} {base:Nat} {e:TypeId} {size:Nat} {v:Value} {n:Nat} {xs:List Value} (h:w.ownsRow base e size v n xs) (hs:∀i,v.ownBlock=some i->w'.heap[i]?=w.heap[i]?):w'.ownsRow base e size v n xs:=by
 refine⟨h.1,?_⟩;rcases h.2 with h0|⟨g,cap,cur,rfl,h1,h2,h3⟩
 ·exact .inl h0
 ·exact .inr ⟨g,cap,cur,rfl,h1,by rw[hs g rfl];exact h2,h3⟩
theorem zoJ {w W w7:World} {TB base n1 g7 cap7:Nat} {own0:Option Nat} {ts:List (Option Nat)} {v:Value} {n:Nat} (hn:n<100) (HT:zeJ w TB base n1 own0 ts) (hl:ts.length<8)
 (hb:w7.heap[TB]?=some (.cells #[v] 229)) (hown:v.ownBlock=own0\/∃g,v.ownBlock=some g/\n1<=g) (hne:v.ownBlock≠some TB)
 (hK:zi6 TB n1 own0 w W) (hW:w.heap.size<=W.heap.size) (hg:W.grownBy w7 v.ownBlock) (hr:w7.ownsRow base 9 1 (.slice (some ⟨g7,0,none⟩) (ts.length+1) cap7) (ts.length+1) (zdn ts ++ [zaD (Lib.decDigits n)])) (ho:v.ownBlock=some g7\/g7=W.heap.size):
 zeJ (w7.setCell ⟨TB,0,none⟩ (.slice (some ⟨g7,0,none⟩) (ts.length+1) cap7)) TB base n1 own0 (ts ++ [some n])/\zi6 TB n1 own0 w (w7.setCell ⟨TB,0,none⟩ (.slice (some ⟨g7,0,none⟩) (ts.length+1) cap7)):=by
 have hg7:g7≠TB:=by
  rcases ho with e|e
  ·intro q;exact hne (by rw[e,q])
  ·have:=HT.tb;have:=HT.hn;omega
 refine⟨⟨⟨.slice (some ⟨g7,0,none⟩) (ts.length+1) cap7,zg hb 0 _,?_,?_,?_⟩,?_,HT.hb,HT.tb,by simp;omega,?_⟩,?_⟩
 ·rw[zoI,List.length_append];exact ZH hr (λi hi=>Below.heap_setCell _ _ _ _ (by
   obtain rfl:g7=i:=by simpa[Value.ownBlock] using hi
   exact hg7))
 ·rcases ho with e|e
  ·rcases hown with q|⟨g,q,h1⟩
   ·exact .inl (by rw[←q,e];rfl)
   ·exact .inr ⟨g7,rfl,by rw[e] at q;cases q;exact h1⟩
  ·exact .inr ⟨g7,rfl,by have:=HT.hn;omega⟩
 ·simp[Value.ownBlock];exact hg7
 ·have:(w7.setCell ⟨TB,0,none⟩ (.slice (some ⟨g7,0,none⟩) (ts.length+1) cap7)).heap.size=w7.heap.size:=by simp[World.setCell]
  rw[this];have:=hg.size;have:=HT.hn;omega
 ·intro m hm;rcases List.mem_append.1 hm with e|e
  ·exact HT.toks m e
  ·simp at e;omega
 ·refine(hK.grown hg (λk hk _=>?_)).setCell _ _ (λ_=>.inl rfl);rcases hown with q|⟨g,q,h1⟩
  ·exact .inr (.inl (by rw[←q,hk]))
  ·rw[hk] at q;cases q;exact .inr (.inr h1)
theorem zvL (n:Nat) (TB base n1:Nat) (own0:Option Nat) (ts:List (Option Nat)) (w:World) (hn:n<100) (h:zeJ w TB base n1 own0 ts) (hl:ts.length<8):
 Calls Tryz.prog 235 #[.int .i64 n,.pointer (some ⟨TB,0,none⟩)] w λe w'=>e=.returned (.tuple #[])/\zeJ w' TB base n1 own0 (ts ++ [some n])/\zi6 TB n1 own0 w w':=by
 obtain⟨v,hb,hrow,hown,hne⟩:=h.box;obtain⟨ti,i1,i2,i3,i4⟩:=zk9;have hc:=Tryz.strconv_Itoa_small n hn;have c0:w.cell? ⟨TB,0,none⟩=some v:=by rw[za hb];rfl
 have fr:=ze hb;have htb:=Nat.lt_of_lt_of_le h.tb h.hn;have hbs:=h.hb;have Hrow:=zH hrow;have Hb:=zH hb;have HT:=zH h;have Hown:=zH hown;have Hne:=zH hne;clear hrow hb hown hne h;go_in;go_wp2_with fail;go_region_law (first|(go_simp;go_at_call 236;refine sM (hc _) ?_)|(refine step_append_lies _ (by rfl) (.tmp 3) (.tmp 6) 229 (by rfl) base 9 ti _ 1 16 Tryz.underlying229 i1 i2 i3 i4 rfl (by decide) v ts.length (zdn ts) (by simp[Act.eval]) (ZH Hrow.out (λi hi=>Below.heap_alloc w _ _ (Hrow.out.lt i hi).2)) ⟨w.heap.size,0,none⟩ 1 1 [zaD (Lib.decDigits n)] (by simp[Act.eval]) rfl (World.news_of_block (zf w _)) (by simp[Value.oneCell']) (by decide) (by unfold maxLen;omega) (by omega) (by simp;omega) _ rfl ?_;intro g7 cap7 w7 hr7 hg7 ho7 hl7;have hbk:=(hg7.block _ (by simp;omega) (λe=>Hne.out e.symm)).trans ((Below.heap_alloc w _ _ htb).trans Hb.out);have c7:w7.cell? ⟨TB,0,none⟩=some v:=za hbk 0;have f7:=ze hbk 0));all_goals
  obtain⟨T8,K8⟩:=zoJ (W:=(w.alloc (.cells #[zaD (Lib.decDigits n)] 9)).drew) hn HT.out hl hbk Hown.out Hne.out ((zd.refl _ w).alloc _).drew (by simp) hg7 hr7 ho7;have HT8:=zH T8;have HK8:=zH K8;clear T8 K8 hg7 hr7 ho7;go_wp2_with fail;go_end0;exact⟨rfl,HT8.out,HK8.out⟩
abbrev zmA (TB:Nat):Value:=.func (.func 235) #[] #[.pointer (some ⟨TB,0,none⟩)]
def zc8 (TB base n1:Nat) (own0:Option Nat) (ts:List (Option Nat)) (w:World) (e:Ending) (w':World):Prop:=
 e=.returned (.tuple #[])/\zeJ w' TB base n1 own0 ts/\zi6 TB n1 own0 w w'
theorem zmB (was is:Bool) (on off:Nat) (bw bi bo bf:Nat) (TB base n1:Nat) (own0:Option Nat) (ts:List (Option Nat)) (w:World) (hon:on<100) (hoff:off<100) (h:zeJ w TB base n1 own0 ts) (hl:ts.length<8)
 (cw:w.cell? ⟨bw,0,none⟩=some (.bool was)) (ci:w.cell? ⟨bi,0,none⟩=some (.bool is)) (co:w.cell? ⟨bo,0,none⟩=some (.int .i64 on)) (cf:w.cell? ⟨bf,0,none⟩=some (.int .i64 off)):
 Calls Tryz.prog 246 #[zmA TB,.pointer (some ⟨bi,0,none⟩),.pointer (some ⟨bw,0,none⟩),.pointer (some ⟨bo,0,none⟩),.pointer (some ⟨bf,0,none⟩)] w (zc8 TB base n1 own0 (ts++ZV was is on off) w):=by
 have HT:=zH h;have Ha:Hid (∀n:Nat,n<100->Calls Tryz.prog 235 #[.int .i64 n,.pointer (some ⟨TB,0,none⟩)] w (zc8 TB base n1 own0 (ts ++ [some n]) w)):=λn hn=>zvL n TB base n1 own0 ts w hn HT.out hl;clear h;cases was<;>cases is
 ·have e:ts++ZV false false on off=ts:=by simp[ZV]
  rw[e];go_in;go_wp2_with fail;go_end0;exact⟨rfl,HT.out,zd.refl _ _⟩
 ·have e:ts++ZV false true on off=ts ++ [some on]:=by simp[ZV]
  rw[e];go_in;go_wp2_with fail;go_at_call 235;refine(Ha.out on hon).mono ?_;rintro e w1 ⟨rfl,h1,h2⟩;have H1:Hid (zc8 TB base n1 own0 (ts ++ [some on]) w (.returned (.tuple #[])) w1):=⟨rfl,h1,h2⟩;clear h1 h2;go_wp2_with fail;go_end0;exact H1.out
 ·have e:ts++ZV true false on off=ts ++ [some off]:=by simp[ZV]
  rw[e];go_in;go_wp2_with fail;go_at_call 235;refine(Ha.out off hoff).mono ?_;rintro e w1 ⟨rfl,h1,h2⟩;have H1:Hid (zc8 TB base n1 own0 (ts ++ [some off]) w (.returned (.tuple #[])) w1):=⟨rfl,h1,h2⟩;clear h1 h2;go_wp2_with fail;go_end0;exact H1.out
 ·have e:ts++ZV true true on off=ts:=by simp[ZV]
  rw[e];go_in;go_wp2_with fail;go_end0;exact⟨rfl,HT.out,zd.refl _ _⟩
theorem zla (was is:Int) (first:Nat) (bw bi bf:Nat) (TB base n1:Nat) (own0:Option Nat) (ts:List (Option Nat)) (w:World) (h0:0<=is) (h8:is<=8) (hf:first<50) (hf1:1<=first) (h:zeJ w TB base n1 own0 ts) (hl:ts.length<8)
 (cw:w.cell? ⟨bw,0,none⟩=some (.int .i64 was)) (ci:w.cell? ⟨bi,0,none⟩=some (.int .i64 is)) (cf:w.cell? ⟨bf,0,none⟩=some (.int .i64 first)):
 Calls Tryz.prog 247 #[zmA TB,.pointer (some ⟨bi,0,none⟩),.pointer (some ⟨bw,0,none⟩),.pointer (some ⟨bf,0,none⟩)] w (zc8 TB base n1 own0 (ts++zbO was is first) w):=by
 have HT:=zH h;have Ha:Hid (∀n:Nat,n<100->Calls Tryz.prog 235 #[.int .i64 n,.pointer (some ⟨TB,0,none⟩)] w (zc8 TB base n1 own0 (ts ++ [some n]) w)):=λn hn=>zvL n TB base n1 own0 ts w hn HT.out hl;clear h;by_cases e1:is=was
 ·have e:ts++zbO was is first=ts:=by simp[zbO,e1]
  rw[e];go_in;go_wp2_with fail;go_end0;exact⟨rfl,HT.out,zd.refl _ _⟩
 ·by_cases e2:is=0
  ·have e:ts++zbO was is first=ts ++ [some (first+9)]:=by unfold zbO;rw[if_neg e1,if_pos e2]
   rw[e];have ec:((first:Int)+9)=((first+9:Nat):Int):=by omega
   have HA:Hid (Calls Tryz.prog 235 #[.int .i64 ((first:Int)+9),.pointer (some ⟨TB,0,none⟩)] w (zc8 TB base n1 own0 (ts ++ [some (first+9)]) w)):=by rw[ec];exact Ha.out (first+9) (by omega)
   clear ec e;go_in;go_wp2_with fail;go_at_call 235;refine HA.out.mono ?_;rintro e w1 ⟨rfl,h1,h2⟩;have H1:Hid (zc8 TB base n1 own0 (ts ++ [some (first+9)]) w (.returned (.tuple #[])) w1):=⟨rfl,h1,h2⟩;clear h1 h2;go_wp2_with fail;go_end0;exact H1.out
  ·have e:ts++zbO was is first=ts ++ [some (first+is.toNat-1)]:=by unfold zbO;rw[if_neg e1,if_neg e2]
   rw[e];have ec:((first:Int)+is-1)=((first+is.toNat-1:Nat):Int):=by omega
   have HA:Hid (Calls Tryz.prog 235 #[.int .i64 ((first:Int)+is-1),.pointer (some ⟨TB,0,none⟩)] w (zc8 TB base n1 own0 (ts ++ [some (first+is.toNat-1)]) w)):=by rw[ec];exact Ha.out (first+is.toNat-1) (by omega)
   clear ec e;go_in;go_wp2_with fail;go_at_call 235;refine HA.out.mono ?_;rintro e w1 ⟨rfl,h1,h2⟩;have H1:Hid (zc8 TB base n1 own0 (ts ++ [some (first+is.toNat-1)]) w (.returned (.tuple #[])) w1):=⟨rfl,h1,h2⟩;clear h1 h2;go_wp2_with fail;go_end0;exact H1.out
structure zaU (w:World) (b:Nat) (was is:Bool) (on off:Int):Prop where
 w0:w.heap[b]?=some (.cells #[.bool was] 4)
 w1:w.heap[b+1]?=some (.cells #[.bool is] 4)
 w2:w.heap[b+2]?=some (.cells #[.int .i64 on] 3)
 w3:w.heap[b+3]?=some (.cells #[.int .i64 off] 3)
abbrev zbx (b:Nat):Value:=.func (.func 246) #[] #[.pointer (some ⟨b+1,0,none⟩),.pointer (some ⟨b,0,none⟩),.pointer (some ⟨b+2,0,none⟩),.pointer (some ⟨b+3,0,none⟩)]
structure zdo (w:World) (b:Nat) (was is:Int) (first:Int):Prop where
 w0:w.heap[b]?=some (.cells #[.int .i64 was] 3)
 w1:w.heap[b+1]?=some (.cells #[.int .i64 is] 3)
 w2:w.heap[b+2]?=some (.cells #[.int .i64 first] 3)
abbrev zfr (b:Nat):Value:=.func (.func 247) #[] #[.pointer (some ⟨b+1,0,none⟩),.pointer (some ⟨b,0,none⟩),.pointer (some ⟨b+2,0,none⟩)]
theorem zN (w:World) (o:Obj) {i:Nat} (h:i<w.heap.size):(w.alloc o).heap[i]?=w.heap[i]?:=Below.heap_alloc w o _ h
theorem ZM (w:World) (o:Obj) {i:Nat} (h:i=w.heap.size):(w.alloc o).heap[i]?=some o:=by rw[h];exact zf w o
theorem zvM (was is:Bool) (on off:Int) (w:World):
 Calls Tryz.prog 233 #[.bool was,.bool is,.int .i64 on,.int .i64 off] w λe w'=>∃b,e=.returned (zbx b)/\zaU w' b was is on off/\w.heap.size=b/\w'.heap.size=b+4/\Below w.heap.size w w':=by
 go_in;go_wp2_with fail;go_ret;refine⟨w.heap.size,rfl,⟨?_,?_,?_,?_⟩,rfl,by simp,((((Below.refl _ _).alloc (Nat.le_refl _) _).alloc (by simp) _).alloc (by simp;omega) _).alloc (by simp;omega) _⟩
 ·rw[zN _ _ (by first|(simp;done)|(simp;omega)),zN _ _ (by first|(simp;done)|(simp;omega)),zN _ _ (by first|(simp;done)|(simp;omega)),ZM _ _ rfl]
 ·rw[zN _ _ (by first|(simp;done)|(simp;omega)),zN _ _ (by first|(simp;done)|(simp;omega)),ZM _ _ (by first|(simp;done)|(simp;omega))]
 ·rw[zN _ _ (by first|(simp;done)|(simp;omega)),ZM _ _ (by first|(simp;done)|(simp;omega))]
 ·rw[ZM _ _ (by first|(simp;done)|(simp;omega))]
theorem zsO (was is:Int) (first:Int) (w:World):
 Calls Tryz.prog 234 #[.int .i64 was,.int .i64 is,.int .i64 first] w λe w'=>∃b,e=.returned (zfr b)/\zdo w' b was is first/\w.heap.size=b/\w'.heap.size=b+3/\Below w.heap.size w w':=by
 go_in;go_wp2_with fail;go_ret;refine⟨w.heap.size,rfl,⟨?_,?_,?_⟩,rfl,by simp,(((Below.refl _ _).alloc (Nat.le_refl _) _).alloc (by first|(simp;done)|(simp;omega)) _).alloc (by first|(simp;done)|(simp;omega)) _⟩
 ·rw[zN _ _ (by first|(simp;done)|(simp;omega)),zN _ _ (by first|(simp;done)|(simp;omega)),ZM _ _ rfl]
 ·rw[zN _ _ (by first|(simp;done)|(simp;omega)),ZM _ _ (by first|(simp;done)|(simp;omega))]
 ·rw[ZM _ _ (by first|(simp;done)|(simp;omega))]
end
end Go.Proofs.YtjlfibhbfdckpaaGreatDoor
