import Derived.Test.YtjlfibhbfdckpaaGreatDoorW25
import Derived.Shelf.Strings.OnBuilder
import Derived.Shelf.Strconv.Itoa3
namespace Go.Proofs.YtjlfibhbfdckpaaGreatDoor
set_option maxHeartbeats 64000000
set_option maxRecDepth 100000
section
open Go.RowKit
structure Tt (fx fy:Nat) (a:Option Addr->Array Value) (L:List Wn) (last:Int) (L':List Wn) (last':Int) (r:Value) (c:Int) (f:Rs->Rs):Prop where
 ok:ZM L' last'
 le:last<=last'/\last'<=last+1
 pens:zaj L->zaj L'
 fit:∀s:Rs,Fits L s.W s.H->Fits L' (f s).W (f s).H
 fl:∀s:Rs,s.Fl->(f s).Fl
 so:∀s:Rs,s.Ok->(f s).Ok
 err:c≠0->L'=L/\last'=last
 x:∀(w:World) (M:Mm) (N:Nat) (s:Rs) (t:Pt),s.Ok->zK w M L last N s t->ze zd.prog fx (a (some ⟨M.t 0,0,none⟩)) w (zb1 M L L' last' (f s) t w r)
 y:∀(w:World) (R:Rm),Zs w R L last->ze zd.prog fy (a (some ⟨R.d,0,none⟩)) w (Zt R L L' last' w r)
section
variable {L:List Wn} {last:Int}
theorem Tt.no {fx fy:Nat} {a:Option Addr->Array Value} {r:Value} {c:Int} (ok:ZM L last)
 (hx:∀(w:World) (M:Mm) (N:Nat) (s:Rs) (t:Pt),zK w M L last N s t->ze zd.prog fx (a (some ⟨M.t 0,0,none⟩)) w λe w'=>e=.returned r/\Below w.heap.size w w')
 (hy:∀(w:World) (R:Rm),Zs w R L last->ze zd.prog fy (a (some ⟨R.d,0,none⟩)) w λe w'=>e=.returned r/\Below w.heap.size w w'):Tt fx fy a L last L last r c id:=
 ⟨ok,⟨Int.le_refl _,by omega⟩,id,λ_ h=>h,λ_ h=>h,λ_ h=>h,λ_=>⟨rfl,rfl⟩,λw M N s t _ h=>(hx w M N s t h).mono (by rintro e w' ⟨rfl,b⟩;exact(zaf.stay h b).toG),λw R h=>(hy w R h).mono (by rintro e w' ⟨rfl,b⟩;exact Zt.stay h b)⟩
theorem Tt.yes {fx fy:Nat} {a:Option Addr->Array Value} {r:Value} {L':List Wn} {last':Int} (ok:ZM L' last') (le:last<=last'/\last'<=last+1) (pens:zaj L->zaj L') (fit:∀W H:Nat,Fits L W H->Fits L' W H)
 (hx:∀(w:World) (M:Mm) (N:Nat) (s:Rs) (t:Pt),zK w M L last N s t->ze zd.prog fx (a (some ⟨M.t 0,0,none⟩)) w (zaf M L L' last' N s t w r))
 (hy:∀(w:World) (R:Rm),Zs w R L last->ze zd.prog fy (a (some ⟨R.d,0,none⟩)) w (Zt R L L' last' w r)):Tt fx fy a L last L' last' r 0 id:=
 ⟨ok,le,pens,λ_ h=>fit _ _ h,λ_ h=>h,λ_ h=>h,λh=>absurd rfl h,λw M N s t _ h=>(hx w M N s t h).mono (λ_ _ p=>p.toG),hy⟩
theorem zus (ok:ZM L last) (n:Int) (b:Bool):∃L' c,Tt 53 101 (λp=>#[.pointer p,.int .i64 n,.bool b]) L last L' last (.int .i64 c) c id:=by
 by_cases he:zW L n=0
 ·obtain⟨v,hv,rfl,v0,hp,_,j,j0,hj,hne⟩:=zdI ok he;exact⟨Zb L v.n (λu=>{u with sh:=b}),0,.yes (zdk ok (λ_ _ e=>e) (λ_ _ _=>rfl) (λu hu _=>ok.pl u hu)) ⟨Int.le_refl _,by omega⟩ (λp=>p.upd _ (λu hu _=>p u hu)) (λ_ _ q=>q.upd _ (λ_ _ _ e=>⟨e,rfl,rfl⟩)) (λw M N s t h=>zvB ok w h v hv hp b) (λw R h=>zui ok w h v j hj hne j0 b)⟩
 ·exact⟨L,_,.no ok (λw M N s t h=>ze.below (zsd ok w h n b he)) (λw R h=>ze.below (zqf ok w h n b he))⟩
theorem zut (ok:ZM L last) (n x y:Int):∃L' c,Tt 50 98 (λp=>#[.pointer p,.int .i64 n,.int .i64 x,.int .i64 y]) L last L' last (.int .i64 c) c id:=by
 by_cases he:zW L n=0
 ·obtain⟨v,hv,rfl,v0,hp,_,j,j0,hj,hne⟩:=zdI ok he;cases hpl:Zv x y with
  |true=>exact⟨Zb L v.n (λu=>{u with x:=x,y:=y}),0,.yes (zdk ok (λ_ _ e=>e) (λ_ _ _=>rfl) (λu hu _=>zbJ.1 hpl)) ⟨Int.le_refl _,by omega⟩ (λp=>p.upd _ (λu hu _=>p u hu)) (λ_ _ q=>q.upd _ (λ_ _ _ e=>⟨e,rfl,rfl⟩)) (λw M N s t h=>ztH ok w h v hv hp x y hpl) (λw R h=>zqc ok w h v j hj hne j0 x y hpl)⟩
  |false=>exact⟨L,4,.no ok (λw M N s t h=>ze.below (zpU ok w h v hv hp x y hpl)) (λw R h=>ze.below (zog ok w h v j hj hne j0 x y hpl))⟩
 ·exact⟨L,_,.no ok (λw M N s t h=>ze.below (zse ok w h n x y he)) (λw R h=>ze.below (zqg ok w h n x y he))⟩
theorem zsL (ok:ZM L last) (n x y:Int):∃L' c,Tt 51 99 (λp=>#[.pointer p,.int .i64 n,.int .i64 x,.int .i64 y]) L last L' last (.int .i64 c) c id:=by
 by_cases he:zW L n=0
 ·obtain⟨v,hv,rfl,v0,hp,_,j,j0,hj,hne⟩:=zdI ok he;cases hpl:ZE x y with
  |true=>
   obtain⟨a1,a2,a3,a4⟩:=Zu.1 hpl;obtain⟨x,rfl⟩:=Int.eq_ofNat_of_zero_le (show 0<=x by omega);obtain⟨y,rfl⟩:=Int.eq_ofNat_of_zero_le (show 0<=y by omega);exact⟨Zb L v.n (λu=>{u with W:=x,H:=y,G:=ZL v.W v.H x v.G}),0,.yes (zdk ok (λ_ _ e=>e) (λ_ _ _=>rfl) (λu hu _=>ok.pl u hu)) ⟨Int.le_refl _,by omega⟩ (λp=>p.upd _ (λu hu _=>(p v hv).sized x y)) (λ_ _ q=>q.upd _ (λu hu e0 e=>absurd (e0.symm.trans e) v0)) (λw M N s t h=>zuc ok w h v hv hp x y hpl) (λw R h=>zsp ok w h v j hj hne j0 x y hpl)⟩
  |false=>exact⟨L,3,.no ok (λw M N s t h=>ze.below (zn6 ok w h v hv hp x y hpl)) (λw R h=>ze.below (zmj ok w h v j hj hne j0 x y hpl))⟩
 ·exact⟨L,_,.no ok (λw M N s t h=>ze.below (zp6 ok w h n x y he)) (λw R h=>ze.below (zoe ok w h n x y he))⟩
theorem zsM (ok:ZM L last) (n:Int) (b:Bool):∃L' c,Tt 52 100 (λp=>#[.pointer p,.int .i64 n,.bool b]) L last L' last (.int .i64 c) c id:=by
 by_cases he:zW L n=0
 ·obtain⟨v,hv,rfl,v0,hp,⟨o,ho,hpo,hvo⟩,j,j0,hj,hne⟩:=zdI ok he;cases b with
  |true=>
   refine⟨zcA L v o.n,0,.yes (zp9 ok hv v0 ho (zue ok hv ho hpo)) ⟨Int.le_refl _,by omega⟩ (λp=>p.top hv _) (λ_ _ q=>q.top hv _) (λw M N s t h=>zpT ok w h v hv hp true _ (zpP ok w h v o hv ho hpo hvo)) (λw R h=>?_)⟩;rw[←hpo];exact zov ok w h v j hj hne j0
  |false=>exact⟨zcM L v,0,.yes (zuf ok hv v0) ⟨Int.le_refl _,by omega⟩ (λp=>p.bot hv) (λ_ _ q=>q.bot hv) (λw M N s t h=>zpT ok w h v hv hp false _ (znX ok w h v o hv ho hpo hvo)) (λw R h=>zmt ok w h v j hj hne j0)⟩
 ·exact⟨L,_,.no ok (λw M N s t h=>ze.below (zpV ok w h n b he)) (λw R h=>ze.below (zof ok w h n b he))⟩
theorem zqL (ok:ZM L last) (n:Int):∃L' c,Tt 49 97 (λp=>#[.pointer p,.int .i64 n]) L last L' last (.int .i64 c) c id:=by
 by_cases he:zW L n=0
 ·obtain⟨v,hv,rfl,v0,hp,⟨o,ho,hpo,hvo⟩,j,j0,hj,hne⟩:=zdI ok he;exact⟨delL L v.n,0,.yes (zug ok hv v0) ⟨Int.le_refl _,by omega⟩ (λp=>p.del _) (λ_ _ q=>q.del _) (λw M N s t h=>zsk ok w h v o hv ho hpo hvo hp) (λw R h=>zqp ok w h v j hj hne j0)⟩
 ·exact⟨L,_,.no ok (λw M N s t h=>ze.below (zn7 ok w h n he)) (λw R h=>ze.below (zmi ok w h n he))⟩
theorem zuu (ok:ZM L last) (n m:Int):∃L' c,Tt 54 102 (λp=>#[.pointer p,.int .i64 n,.int .i64 m]) L last L' last (.int .i64 c) c id:=by
 obtain⟨rk,K,T⟩:=ok.tree;cases hm:zcj L m with
 |false=>exact⟨L,1,.no ok (λw M N s t h=>ze.below (znY ok w h n m hm)) (λw R h=>ze.below (zmp ok w h n m hm))⟩
 |true=>
  obtain⟨q,hq,rfl,k,hk,hnk⟩:=zhP ok hm;by_cases he:zW L n=0
  ·obtain⟨v,hv,rfl,v0,hp,⟨o,ho,hpo,hvo⟩,j,j0,hj,hne⟩:=zdI ok he;by_cases hs:Sub L v.n q.n
   ·exact⟨L,5,.no ok (λw M N s t h=>ze.below (znZ T ok w h v q hv hq hp hs)) (λw R h=>zmu ok w h v q j k hj hne j0 hk hnk hs)⟩
   ·exact⟨zcA L v q.n,0,.yes (zp9 ok hv v0 hq hs) ⟨Int.le_refl _,by omega⟩ (λp=>p.top hv _) (λ_ _ q=>q.top hv _) (λw M N s t h=>zvE T ok w h v o q hv ho hq hpo hvo hs) (λw R h=>zul ok w h v q j k hj hne j0 hk hnk hs)⟩
  ·exact⟨L,_,.no ok (λw M N s t h=>ze.below (zsf ok w h n q hq he)) (λw R h=>ze.below (zqi ok w h n q k hk hnk he))⟩
theorem zgP (ok:ZM L last) (l0:0<=last) (hl:last<9223372036854775807) (v:Wn) (hv:v∈L) (x y:Int) (W H:Nat) (hpl:Zv x y=true) (hs:ZE W H=true) (hlen:L.length<16):
 Tt 48 96 (λp=>#[.pointer p,.int .i64 v.n,.int .i64 x,.int .i64 y,.int .i64 W,.int .i64 H]) L last (L ++ [⟨last+1,v.n,x,y,true,W,H,λ_ _=>blk Pn.plain⟩]) (last+1) (.tuple #[.int .i64 (last+1),.int .i64 0]) 0 id:=by
 obtain⟨rk,K,T⟩:=ok.tree;obtain⟨j,hj,hne,_⟩:=zfm T.nd hv;have hz:=Zu.1 hs;exact .yes (znV ok hv hlen x y W H _ (zbJ.1 hpl) true) ⟨by omega,Int.le_refl _⟩ (λp=>p.app (zhX W H)) (λ_ _ q=>q.app (λe=>absurd e (by show¬last+1=0;omega))) (λw M N s t h=>zr5 ok w h v hv x y W H (by omega) (by omega) (by omega) (by omega) hpl hlen hl) (λw R h=>zqk ok w h v j hj hne x y W H hpl hs hlen hl l0)
theorem zqM (ok:ZM L last) (l0:0<=last) (hl:last<9223372036854775807) (n x y W H:Int):∃L' last' a c,Tt 48 96 (λp=>#[.pointer p,.int .i64 n,.int .i64 x,.int .i64 y,.int .i64 W,.int .i64 H]) L last L' last' (.tuple #[.int .i64 a,.int .i64 c]) c id:=by
 by_cases he:zdl L n x y W H=0
 ·unfold zdl at he;cases hn:zcj L n with
  |false=>rw[if_pos hn] at he;omega
  |true=>
   rw[if_neg (by simp[hn])] at he;cases hp:Zv x y with
   |false=>rw[if_pos hp] at he;omega
   |true=>
    rw[if_neg (by simp[hp])] at he;cases hs:ZE W H with
    |false=>rw[if_pos hs] at he;omega
    |true=>
     rw[if_neg (by simp[hs])] at he;by_cases h16:16<=L.length
     ·rw[if_pos h16] at he;omega
     ·obtain⟨v,hv,rfl,_⟩:=zhP ok hn;obtain⟨a1,a2,a3,a4⟩:=Zu.1 hs;obtain⟨W,rfl⟩:=Int.eq_ofNat_of_zero_le (show 0<=W by omega);obtain⟨H,rfl⟩:=Int.eq_ofNat_of_zero_le (show 0<=H by omega);exact⟨_,_,_,_,zgP ok l0 hl v hv x y W H hp hs (by omega)⟩
 ·exact⟨L,last,_,_,.no ok (λw M N s t h=>ze.below (zn0 ok w h n x y W H he)) (λw R h=>ze.below (zmo ok w h n x y W H he))⟩
theorem zhY (ok:ZM L last) (v:Wn) (hv:v∈L) (x y:Int) (hpl:Zv x y=true) (b:ByteArray) (hb:b.size<=200) (p:Pn) (hpn:zdC p=true):
 Tt 31 32 (λq=>#[.pointer q,.int .i64 v.n,.int .i64 x,.int .i64 y,.string b,p.agg]) L last (Zb L v.n (λu=>{u with G:=writeAll v.W v.H y p x (Zj b b.size 0) v.G})) last (.int .i64 0) 0 id:=by
 obtain⟨rk,K,T⟩:=ok.tree;obtain⟨j,hj,hne,_⟩:=zfm T.nd hv;exact .yes (zdk ok (λ_ _ e=>e) (λ_ _ _=>rfl) (λu hu _=>ok.pl u hu)) ⟨Int.le_refl _,by omega⟩ (λq=>q.upd _ (λu hu e=>by rw[zam T.nd hu hv e];exact zbR.writeAll (znz hpn) _ _ (q v hv))) (λ_ _ q=>q.upd _ (λ_ _ _ e=>⟨e,rfl,rfl⟩)) (λw M N s t h=>zt8 ok w h v hv x y hpl b hb p hpn) (λw R h=>zsu ok w h v j hj hne x y hpl b hb p hpn)
theorem zsN (ok:ZM L last) (n x y:Int) (b:ByteArray) (p:Pn):∃L' c,Tt 31 32 (λq=>#[.pointer q,.int .i64 n,.int .i64 x,.int .i64 y,.string b,p.agg]) L last L' last (.int .i64 c) c id:=by
 by_cases he:zez L n x y b p=0
 ·unfold zez at he;cases hn:zcj L n with
  |false=>rw[if_pos hn] at he;omega
  |true=>
   rw[if_neg (by simp[hn])] at he;cases hp:Zv x y with
   |false=>rw[if_pos hp] at he;omega
   |true=>
    rw[if_neg (by simp[hp])] at he;by_cases hb:200<b.size
    ·rw[if_pos hb] at he;omega
    ·rw[if_neg hb] at he;cases hpn:zdC p with
     |false=>rw[if_pos hpn] at he;omega
     |true=>
      obtain⟨v,hv,rfl,_⟩:=zhP ok hn;exact⟨_,_,zhY ok v hv x y hp b (by omega) p hpn⟩
 ·exact⟨L,_,.no ok (λw M N s t h=>zpW ok w h n x y b p he) (λw R h=>zoj ok w h n x y b p he)⟩
theorem zuv (ok:ZM L last) (n x y ww hh:Int) (p:Pn):∃L' c,Tt 33 34 (λq=>#[.pointer q,.int .i64 n,.int .i64 x,.int .i64 y,.int .i64 ww,.int .i64 hh,p.agg]) L last L' last (.int .i64 c) c id:=by
 by_cases he:zgF L n x y ww hh p=0
 ·unfold zgF at he;cases hn:zcj L n with
  |false=>rw[if_pos hn] at he;omega
  |true=>
   rw[if_neg (by simp[hn])] at he;cases hp:Zv x y with
   |false=>rw[if_pos hp] at he;omega
   |true=>
    rw[if_neg (by simp[hp])] at he;cases hr:zeh ww hh with
    |false=>rw[if_pos hr] at he;omega
    |true=>
     rw[if_neg (by simp[hr])] at he;cases hpn:zdC p with
     |false=>rw[if_pos hpn] at he;omega
     |true=>
      obtain⟨v,hv,rfl,j,hj,hne⟩:=zhP ok hn;exact⟨Zb L v.n (λu=>{u with G:=za0 v.W x y ww hh p v.G v.H}),_,.yes (zdk ok (λ_ _ e=>e) (λ_ _ _=>rfl) (λu hu _=>ok.pl u hu)) ⟨Int.le_refl _,by omega⟩ (λq=>q.upd _ (λu hu e=>by obtain⟨rk,K,T⟩:=ok.tree;rw[zam T.nd hu hv e];exact(q v hv).fill x y ww hh (znz hpn) _)) (λ_ _ q=>q.upd _ (λ_ _ _ e=>⟨e,rfl,rfl⟩)) (λw M N s t h=>zvG ok w h v hv x y ww hh p hp hr hpn) (λw R h=>zuj ok w h v j hj hne x y ww hh p hp hr hpn)⟩
 ·exact⟨L,_,.no ok (λw M N s t h=>zsi ok w h n x y ww hh p he) (λw R h=>zqj ok w h n x y ww hh p he)⟩
theorem zqN (ok:ZM L last) (n k:Int):∃L' c,Tt 35 36 (λq=>#[.pointer q,.int .i64 n,.int .i64 k]) L last L' last (.int .i64 c) c id:=by
 cases hn:zcj L n with
 |false=>exact⟨L,1,.no ok (λw M N s t h=>ze.below (zn4 ok w h n k hn)) (λw R h=>ze.below (zmk ok w h n k hn))⟩
 |true=>
  obtain⟨v,hv,rfl,j,hj,hne⟩:=zhP ok hn;exact⟨Zb L v.n (λu=>{u with G:=zt 0 ((v.H:Int)-1) k Pn.plain v.G}),_,.yes (zdk ok (λ_ _ e=>e) (λ_ _ _=>rfl) (λu hu _=>ok.pl u hu)) ⟨Int.le_refl _,by omega⟩ (λq=>q.upd _ (λu hu e=>by obtain⟨rk,K,T⟩:=ok.tree;rw[zam T.nd hu hv e];exact(q v hv).scroll 0 _ k (by omega) (by omega) zfU)) (λ_ _ q=>q.upd _ (λ_ _ _ e=>⟨e,rfl,rfl⟩)) (λw M N s t h=>zsh ok w h v hv k) (λw R h=>zqd ok w h v j hj hne k)⟩
theorem zqO (ok:ZM L last) (x y:Int):∃L' c,Tt 18 37 (λq=>#[.pointer q,.int .i64 x,.int .i64 y]) L last L' last (.int .i64 c) c (zg1 x y):=by
 obtain⟨rk,K,T⟩:=ok.tree;cases hz:ZE x y with
 |false=>
  have e:zg1 x y=id:=by funext s;unfold zg1;rw[hz];rfl
  rw[e];exact⟨L,3,.no ok (λw M N s t h=>ze.below (zoa w h x y hz)) (λw R h=>ze.below (zml w R.d x y hz))⟩
 |true=>
  have e:zg1 x y=λs=>zaD s x.toNat y.toNat:=by funext s;unfold zg1;rw[hz];rfl
  rw[e];obtain⟨a1,a2,a3,a4⟩:=Zu.1 hz;obtain⟨x,rfl⟩:=Int.eq_ofNat_of_zero_le (show 0<=x by omega);obtain⟨y,rfl⟩:=Int.eq_ofNat_of_zero_le (show 0<=y by omega);obtain⟨r,t',e,h0,h1,h2⟩:=T.head;have hr:r∈L:=by rw[e];exact List.mem_cons_self
  simp only[Int.toNat_natCast];refine⟨_,_,⟨zdk (n:=r.n) (f:=λu=>{u with W:=x,H:=y,G:=ZL r.W r.H x r.G}) ok (λ_ _ e=>e) (λ_ _ _=>rfl) (λu hu _=>ok.pl u hu),⟨Int.le_refl _,by omega⟩,λp=>p.upd _ (λu hu _=>(p r hr).sized x y),λs h=>?_,λs h=>zmy h (by omega) (by omega) (by omega) (by omega),λs h=>zcV h (by omega) (by omega) (by omega) (by omega),λh=>absurd rfl h,λw M N s t hs h=>zsm ok w h hs r hr h0 x y hz,λw R h=>zqe ok w h r (by rw[e];rfl) x y hz⟩⟩;intro v hv hv0;unfold Zb at hv;obtain⟨u,hu,rfl⟩:=List.mem_map.1 hv;split at hv0
  ·rename_i eu;rw[if_pos eu];exact⟨rfl,rfl⟩
  ·rename_i eu;exact absurd (hv0.trans h0.symm) eu
end
end
section
open Go.RowKit
attribute [local go_sem ↓] Go.wp_at_zero Go.wp_at_succ
theorem zcO {B:Nat} {a b:World} (h:Below B a b) (n:Nat):Below B a (b.drewN n):=⟨h.os,h.tape,h.output,h.size,h.block⟩
abbrev Sp.agg (p:Sp):Value:=.agg #[.int .i64 p.x,.int .i64 p.y,.bool p.pend,.int .i64 p.pen.f,.int .i64 p.pen.b,.bool p.pen.bo,.bool p.pen.un,.bool p.pen.re]
abbrev Wy.agg (v:Wy):Value:=.agg #[.string ⟨v.b.toArray⟩,.int .i64 v.k,.int .i64 v.e.x,.int .i64 v.e.y,.bool v.e.pend,.int .i64 v.e.pen.f,.int .i64 v.e.pen.b,.bool v.e.pen.bo,.bool v.e.pen.un,.bool v.e.pen.re]
abbrev Gl.agg (g:Gl):Value:=.agg #[.int .i64 g.x,.int .i64 g.y,.int .i64 g.pen.f,.int .i64 g.pen.b,.bool g.pen.bo,.bool g.pen.un,.bool g.pen.re,.bool g.letter]
theorem zhZ (p:Sp) (x y:Int) (w:World):
 ze zd.prog 239 #[p.agg,.int .i64 x,.int .i64 y] w λe w'=>e=.returned (p.move x y).agg/\Below w.heap.size w w':=by
 go_in;go_wp2;exact bodyPost_ret (v:=(p.move x y).agg) (by simp[results,zd.results239,go_sem,Sp.move]) rfl ⟨rfl,((Below.refl _ _).alloc (Nat.le_refl _) _).alloc (by simp) _⟩
theorem zuw (p:Sp) (n:Pn) (w:World):
 ze zd.prog 240 #[p.agg,n.agg] w λe w'=>e=.returned (p.ink n).agg/\Below w.heap.size w w':=by
 go_in;go_wp2;exact bodyPost_ret (v:=(p.ink n).agg) (by simp[results,zd.results240,go_sem,Sp.ink]) rfl ⟨rfl,(((Below.refl _ _).alloc (Nat.le_refl _) _).alloc (by simp) _).alloc (by simp;omega) _⟩
theorem zh0 (p:Sp) (w:World) (h0:0<=p.y) (h1:p.y<=1000):
 ze zd.prog 238 #[p.agg] w λe w'=>e=.returned (.tuple #[.int .i64 p.lx,.int .i64 p.ly])/\Below w.heap.size w w':=by
 obtain⟨x,y,pd,n⟩:=p;simp only at h0 h1;cases pd with
 |true=>
  go_in;go_wp2;go_quiet (fail);go_wp2;go_ret2;exact⟨by simp[Sp.lx,Sp.ly],zcO ((Below.refl _ _).alloc (Nat.le_refl _) _) _⟩
 |false=>
  go_in;go_wp2;go_quiet (fail);go_wp2;go_ret2;exact⟨by simp[Sp.lx,Sp.ly],zcO ((Below.refl _ _).alloc (Nat.le_refl _) _) _⟩
end
end Go.Proofs.YtjlfibhbfdckpaaGreatDoor
namespace Go.Proofs
set_option maxHeartbeats 64000000
set_option maxRecDepth 100000
open Go.Shelf
def zd.lays156_ren:Go.Shelf.Ren:=⟨fun|156=>232|165=>245|166=>215|169=>179|240=>231|241=>249|276=>244|277=>251|n=>n,fun|31=>229|9=>9|3=>3|4=>4|0=>0|20=>20|72=>192|76=>226|70=>190|37=>177|75=>225|127=>212|164=>274|5=>5|80=>56|n=>n,fun|n=>n⟩
theorem zd.lays156:Go.Proofs.Lays.n156 zd.prog zd.lays156_ren:={
 mixed:=by kernel_rfl
 f156:=zd.func232.trans (congrArg some (by kernel_rfl))
 f165:=zd.func245.trans (congrArg some (by kernel_rfl))
 f166:=zd.func215.trans (congrArg some (by kernel_rfl))
 f169:=zd.func179.trans (congrArg some (by kernel_rfl))
 f240:=zd.func231.trans (congrArg some (by kernel_rfl))
 f241:=zd.func249.trans (congrArg some (by kernel_rfl))
 f276:=zd.func244.trans (congrArg some (by kernel_rfl))
 f277:=zd.func251.trans (congrArg some (by kernel_rfl))
 t0:=zd.underlying0
 a0:=zd.isAgg0
 z0:=zd.sizeOf0
 v0:=zd.zeroValue0
 t3:=zd.underlying3
 a3:=zd.isAgg3
 z3:=zd.sizeOf3
 v3:=zd.zeroValue3
 t4:=zd.underlying4
 a4:=zd.isAgg4
 z4:=zd.sizeOf4
 v4:=zd.zeroValue4
 t9:=zd.underlying9
 a9:=zd.isAgg9
 z9:=zd.sizeOf9
 v9:=zd.zeroValue9
 t20:=zd.underlying20
 a20:=zd.isAgg20
 z20:=zd.sizeOf20
 v20:=zd.zeroValue20
 t31:=zd.underlying229
 a31:=zd.isAgg229
 z31:=zd.sizeOf229
 v31:=zd.zeroValue229
 t37:=zd.underlying177
 a37:=zd.isAgg177
 z37:=zd.sizeOf177
 v37:=zd.zeroValue177
 t70:=zd.underlying190
 a70:=zd.isAgg190
 z70:=zd.sizeOf190
 v70:=zd.zeroValue190
 t72:=zd.underlying192
 a72:=zd.isAgg192
 z72:=zd.sizeOf192
 v72:=zd.zeroValue192
 t75:=zd.underlying225
 a75:=zd.isAgg225
 z75:=zd.sizeOf225
 v75:=zd.zeroValue225
 t76:=zd.underlying226
 a76:=zd.isAgg226
 z76:=zd.sizeOf226
 v76:=zd.zeroValue226
 t127:=zd.underlying212
 a127:=zd.isAgg212
 z127:=zd.sizeOf212
 v127:=zd.zeroValue212
 t164:=zd.underlying274
 a164:=zd.isAgg274
 z164:=zd.sizeOf274
 v164:=zd.zeroValue274}
theorem zd.Builder_Extra_156:Builder.Extra zd.prog zd.lays156_ren:={
 sizeBuilder:=by kernel_rfl
 liesBuilder:=by kernel_rfl
 t5:=zd.underlying5
 a5:=zd.isAgg5
 z5:=zd.sizeOf5
 v5:=zd.zeroValue5
 infoByte:=by kernel_rfl
 cellsByte:=by kernel_rfl
 sizeByte:=by kernel_rfl
 neB5:=by decide}
open Go.RowKit in
theorem zd.strings_Join_none (a:Option Addr) (c:Nat) (sep:ByteArray) (w:World):
 ze zd.prog 232 #[.slice a 0 c,.string sep] w λe w'=>e=.returned (.string ⟨#[]⟩)/\w'=w:=Any.strings_Join_none zd.lays156 zd.Builder_Extra_156 a c sep w
open Go.RowKit in
theorem zd.strings_Join (bk o c:Nat) (xs:List ByteArray) (sep:ByteArray) (w:World) (hcells:∀(j:Nat) x,xs[j]?=some x->w.cell? ⟨bk,o+j,none⟩=some (.string x)) (hbk:bk<w.heap.size) (hN:xs.length<=140737488355328) (hcap:xs.length<=c) (hlen:(Lib.join (xs.map (·.data.toList)) sep.data.toList).length<=140737488355328):
 ze zd.prog 232 #[.slice (some ⟨bk,o,none⟩) xs.length c,.string sep] w λe w'=>e=.returned (.string ⟨(Lib.join (xs.map (·.data.toList)) sep.data.toList).toArray⟩)/\Below w.heap.size w w':=Any.strings_Join zd.lays156 zd.Builder_Extra_156 bk o c xs sep w hcells hbk hN hcap hlen
def zd.lays171_ren:Go.Shelf.Ren:=⟨fun|171=>236|243=>248|246=>250|283=>252|284=>253|285=>254|286=>255|129=>257|317=>256|318=>258|319=>259|320=>260|337=>261|338=>262|n=>n,fun|3=>3|9=>9|2=>2|4=>4|171=>278|0=>0|53=>279|37=>177|5=>5|173=>282|212=>285|51=>286|20=>20|213=>287|46=>273|232=>290|233=>291|n=>n,fun|17=>3|18=>4|19=>5|n=>n⟩
theorem zd.lays171:Go.Proofs.Lays.n171 zd.prog zd.lays171_ren:={
 mixed:=by kernel_rfl
 f129:=zd.func257.trans (congrArg some (by kernel_rfl))
 f171:=zd.func236.trans (congrArg some (by kernel_rfl))
 f243:=zd.func248.trans (congrArg some (by kernel_rfl))
 f246:=zd.func250.trans (congrArg some (by kernel_rfl))
 f283:=zd.func252.trans (congrArg some (by kernel_rfl))
 f284:=zd.func253.trans (congrArg some (by kernel_rfl))
 f285:=zd.func254.trans (congrArg some (by kernel_rfl))
 f286:=zd.func255.trans (congrArg some (by kernel_rfl))
 f317:=zd.func256.trans (congrArg some (by kernel_rfl))
 f318:=zd.func258.trans (congrArg some (by kernel_rfl))
 f319:=zd.func259.trans (congrArg some (by kernel_rfl))
 f320:=zd.func260.trans (congrArg some (by kernel_rfl))
 f337:=zd.func261.trans (congrArg some (by kernel_rfl))
 f338:=zd.func262.trans (congrArg some (by kernel_rfl))
 t0:=zd.underlying0
 a0:=zd.isAgg0
 z0:=zd.sizeOf0
 v0:=zd.zeroValue0
 t2:=zd.underlying2
 a2:=zd.isAgg2
 z2:=zd.sizeOf2
 v2:=zd.zeroValue2
 t3:=zd.underlying3
 a3:=zd.isAgg3
 z3:=zd.sizeOf3
 v3:=zd.zeroValue3
 t4:=zd.underlying4
 a4:=zd.isAgg4
 z4:=zd.sizeOf4
 v4:=zd.zeroValue4
 t5:=zd.underlying5
 a5:=zd.isAgg5
 z5:=zd.sizeOf5
 v5:=zd.zeroValue5
 t9:=zd.underlying9
 a9:=zd.isAgg9
 z9:=zd.sizeOf9
 v9:=zd.zeroValue9
 t20:=zd.underlying20
 a20:=zd.isAgg20
 z20:=zd.sizeOf20
 v20:=zd.zeroValue20
 t37:=zd.underlying177
 a37:=zd.isAgg177
 z37:=zd.sizeOf177
 v37:=zd.zeroValue177
 t46:=zd.underlying273
 a46:=zd.isAgg273
 z46:=zd.sizeOf273
 v46:=zd.zeroValue273
 t51:=zd.underlying286
 a51:=zd.isAgg286
 z51:=zd.sizeOf286
 v51:=zd.zeroValue286
 t53:=zd.underlying279
 a53:=zd.isAgg279
 z53:=zd.sizeOf279
 v53:=zd.zeroValue279
 t171:=zd.underlying278
 a171:=zd.isAgg278
 z171:=zd.sizeOf278
 v171:=zd.zeroValue278
 t173:=zd.underlying282
 a173:=zd.isAgg282
 z173:=zd.sizeOf282
 v173:=zd.zeroValue282
 t212:=zd.underlying285
 a212:=zd.isAgg285
 z212:=zd.sizeOf285
 v212:=zd.zeroValue285
 t213:=zd.underlying287
 a213:=zd.isAgg287
 z213:=zd.sizeOf287
 t232:=zd.underlying290
 a232:=zd.isAgg290
 z232:=zd.sizeOf290
 v232:=zd.zeroValue290
 t233:=zd.underlying291
 a233:=zd.isAgg291
 z233:=zd.sizeOf291
 v233:=zd.zeroValue291
 g17:=by kernel_rfl
 g18:=by kernel_rfl
 g19:=by kernel_rfl}
open Go.RowKit Go.Sort Go.Lib in
theorem zd.strconv_Itoa_small (i:Nat) (hi:i<100) (w:World):
 ze zd.prog 236 #[.int .i64 i] w λe w'=>e=.returned (.string ⟨(Lib.decDigits i).toArray⟩)/\w'=w:=Any.strconv_Itoa_small zd.lays171 i hi w
end Go.Proofs
namespace Go.Proofs.YtjlfibhbfdckpaaGreatDoor
set_option maxHeartbeats 64000000
set_option maxRecDepth 100000
section
open Go.RowKit
attribute [local go_sem ↓] Go.wp_at_zero Go.wp_at_succ
abbrev zaF (l:List UInt8):Value:=.string ⟨l.toArray⟩
theorem zsO (w:World):ze zd.prog 218 #[.int .i64 1] w λe w'=>e=.returned (zaF (zbf (zb9 1)))/\w'=w:=by
 go_in;go_wp2;go_ret;exact⟨rfl,rfl⟩
theorem zh1 (n:Int) (h0:0<=n) (h1:n<100) (w:World):ze zd.prog 218 #[.int .i64 n] w λe w'=>e=.returned (zaF (zbf (zb9 n)))/\w'=w:=by
 by_cases h:n=1
 ·subst h;exact zsO w
 ·obtain⟨m,rfl⟩:=Int.eq_ofNat_of_zero_le h0;have hm:m<100:=by omega
  have hc:=zd.strconv_Itoa_small m hm;have ht:zbf (zb9 (m:Int))=Lib.decDigits m:=by unfold zb9;rw[if_neg h];rfl
  rw[ht];go_in;go_wp2_with (go_at_call 236;refine sM (hc _) ?_);go_ret;exact⟨rfl,rfl⟩
theorem zdM (a b:List UInt8):(⟨a.toArray⟩:ByteArray) ++ ⟨b.toArray⟩=⟨(a++b).toArray⟩:=by
 zss;simp
theorem zgm (c:UInt8) (ts:List (Option Nat)) (bk o cap:Nat) (w:World) (ht:zbP ts) (hl:ts.length<=8) (hcap:ts.length<=cap) (hne:ts≠[])
 (hc:∀(j:Nat) t,ts[j]?=some t->w.cell? ⟨bk,o+j,none⟩=some (zaF (zbf t))):
 ze zd.prog 216 #[zaF [c],.slice (some ⟨bk,o,none⟩) ts.length cap] w λe w'=>e=.returned (zaF (zaR c ts))/\Below w.heap.size w w':=by
 have hbk:bk<w.heap.size:=by
  cases ts with
  |nil=>exact absurd rfl hne
  |cons t r=>exact World.block_lt_of_cell? _ _ (hc 0 t rfl)
 have hlen:(Lib.join (ts.map zbf) [59]).length<=1000:=by
  cases ts with
  |nil=>exact absurd rfl hne
  |cons t r=>
   have:=zdn c t r ht;simp only[zaR,List.length_append,List.length_cons,List.length_nil] at this hl;omega
 have hj:=zd.strings_Join bk o cap (ts.map (λt=>(⟨(zbf t).toArray⟩:ByteArray))) ⟨#[59]⟩ w (by
  intro j x hx;rw[List.getElem?_map] at hx;cases ht':ts[j]? with
  |none=>rw[ht'] at hx;cases hx
  |some t=>rw[ht'] at hx;simp at hx;rw[←hx];exact hc j t ht') hbk (by simp;omega) (by simpa using hcap)
 have em:(ts.map (λt=>(⟨(zbf t).toArray⟩:ByteArray))).map (·.data.toList)=ts.map zbf:=by simp
 rw[em,List.length_map] at hj;have es:(⟨#[59]⟩:ByteArray).data.toList=[59]:=rfl;rw[es] at hj;have hj':=hj (by omega);have HJ:Hid (ze zd.prog 232 #[.slice (some ⟨bk,o,none⟩) ts.length cap,.string ⟨#[59]⟩] w λe w'=>e=.returned (zaF (Lib.join (ts.map zbf) [59]))/\Below w.heap.size w w'):=hj';have HL:=zH hlen;clear hj hj' em es hc hlen;have hs1:(⟨#[27,91]⟩:ByteArray) ++ ⟨(Lib.join (ts.map zbf) [59]).toArray⟩=⟨([27,91]++Lib.join (ts.map zbf) [59]).toArray⟩:=zdM [27,91] _;have hs2:(⟨([27,91]++Lib.join (ts.map zbf) [59]).toArray⟩:ByteArray) ++ ⟨#[c]⟩=⟨(zaR c ts).toArray⟩:=zdM ([27,91]++Lib.join (ts.map zbf) [59]) [c];have HS:=zH<|hs1 ▸ hs2
 clear hs1 hs2;go_in;go_wp2_with fail;go_at_call 232;refine HJ.out.mono ?_;rintro e w1 ⟨rfl,hb⟩;have HB:=zH hb;clear hb;have hz:=HL.out;generalize Lib.join (ts.map zbf) [59]=J at *;go_wp2_with fail;go_ret;refine⟨?_,HB.out⟩;rw[HS.out];rfl
theorem zsP (w:World) (c:UInt8) (t:Option Nat) (ht:zbP [t]):
 ze zd.prog 216 #[zaF [c],.slice (some ⟨w.heap.size,0,none⟩) 1 1] (w.alloc (.cells #[zaF (zbf t)] 9)) λe w'=>e=.returned (zaF (zaR c [t]))/\Below w.heap.size w w':=by
 refine(zgm c [t] w.heap.size 0 1 _ ht (by simp) (by simp) (by simp) ?_).mono ?_
 ·intro j u h;rw[za (zh w _)];match j with
  |0=>simp at h;simp[h]
  |j+1=>simp at h
 ·rintro e w' ⟨he,hb⟩;exact⟨he,((Below.refl _ _).alloc (Nat.le_refl _) _).trans (hb.mono (by simp))⟩
theorem zwN (w:World) (c:UInt8) (t u:Option Nat) (ht:zbP [t,u]):
 ze zd.prog 216 #[zaF [c],.slice (some ⟨w.heap.size,0,none⟩) 2 2] (w.alloc (.cells #[zaF (zbf t),zaF (zbf u)] 9)) λe w'=>e=.returned (zaF (zaR c [t,u]))/\Below w.heap.size w w':=by
 refine(zgm c [t,u] w.heap.size 0 2 _ ht (by simp) (by simp) (by simp) ?_).mono ?_
 ·intro j v h;rw[za (zh w _)];match j with
  |0=>simp at h;simp[h]
  |1=>simp at h;simp[h]
  |j+2=>simp at h
 ·rintro e w' ⟨he,hb⟩;exact⟨he,((Below.refl _ _).alloc (Nat.le_refl _) _).trans (hb.mono (by simp))⟩
theorem zux (w:World) (c:UInt8):
 ze zd.prog 216 #[zaF [c],.slice none 0 0] w λe w'=>e=.returned (zaF (zaR c []))/\w'=w:=by
 have hj:=zd.strings_Join_none none 0 ⟨#[59]⟩;go_in;go_wp2_with (go_at_call 232;refine sM (hj _) ?_);go_ret;exact⟨rfl,rfl⟩
theorem zmz (n:Int) (a b:UInt8) (w:World) (h1:-100<n) (h2:n<100):
 ze zd.prog 201 #[.int .i64 n,zaF [a],zaF [b]] w λe w'=>e=.returned (zaF (ZA n a b))/\Below w.heap.size w w':=by
 by_cases hn:n<0
 ·have e:ZA n a b=zaR b [zb9 (-n)]:=by unfold ZA;rw[if_pos hn]
  rw[e];have hs:=zsP w b (zb9 (-n)) (ZF (by omega) Z5);go_in;go_wp2_with (first|(go_at_call 218;refine sM (zh1 (-n) (by omega) (by omega) _) ?_)|(go_at_call 216;refine hs.mono ?_;rintro e w1 ⟨rfl,hb⟩));go_ret;exact⟨rfl,hb⟩
 ·have e:ZA n a b=zaR a [zb9 n]:=by unfold ZA;rw[if_neg hn]
  rw[e];have hs:=zsP w a (zb9 n) (ZF (by omega) Z5);go_in;go_wp2_with (first|(go_at_call 218;refine sM (zh1 n (by omega) (by omega) _) ?_)|(go_at_call 216;refine hs.mono ?_;rintro e w1 ⟨rfl,hb⟩));go_ret;exact⟨rfl,hb⟩
theorem zuy (x y:Int) (w:World) (x0:0<=x) (x1:x<40) (y0:0<=y) (y1:y<20):
 ze zd.prog 222 #[.int .i64 x,.int .i64 y] w λe w'=>e=.returned (zaF (zai x y))/\Below w.heap.size w w':=by
 by_cases hx:x=0
 ·have e:zai x y=zaR 72 [zb9 (y+1)]:=by unfold zai;rw[if_pos hx]
  rw[e];have hs:=zsP w 72 (zb9 (y+1)) (ZF (by omega) Z5);go_in;go_wp2_with (first|(go_at_call 218;refine sM (zh1 (y+1) (by omega) (by omega) _) ?_)|(go_at_call 216;refine hs.mono ?_;rintro e w1 ⟨rfl,hb⟩));go_ret;exact⟨rfl,hb⟩
 ·have e:zai x y=zaR 72 [zb9 (y+1),zb9 (x+1)]:=by unfold zai;rw[if_neg hx]
  rw[e];have hs:=zwN w 72 (zb9 (y+1)) (zb9 (x+1)) (ZF (by omega) (ZF (by omega) Z5));go_in;go_wp2_with (first|(go_at_call 218;refine sM (zh1 _ (by omega) (by omega) _) ?_)|(go_at_call 216;refine hs.mono ?_;rintro e w1 ⟨rfl,hb⟩));go_ret;exact⟨rfl,hb⟩
theorem zmA:(zd.prog.info? 9).bind (·.zero)=some (.string ⟨#[]⟩):=by kernel_rfl
theorem zmB:(zd.prog.info? 9).map (·.size)=some 1:=by kernel_rfl
theorem zla:(zd.prog.info? 9).map (·.bytes)=some 16:=by kernel_rfl
theorem zlb:∃i:TypeInfo,zd.prog.info? 9=some i/\i.zero=some (.string ⟨#[]⟩)/\i.size=1/\i.bytes=16:=by
 have h1:=zmA;have h2:=zmB;have h3:=zla;cases h:zd.prog.info? 9 with
 |none=>rw[h] at h2;simp at h2
 |some i=>rw[h] at h1 h2 h3;exact⟨i,rfl,by simpa using h1,by simpa using h2,by simpa using h3⟩
def zdp (ts:List (Option Nat)):List Value:=ts.map (λt=>zaF (zbf t))
theorem zoK (a b:List (Option Nat)):zdp (a++b)=zdp a++zdp b:=by simp[zdp]
structure zeL (w:World) (TB base n1:Nat) (own0:Option Nat) (ts:List (Option Nat)):Prop where
 box:∃v,w.heap[TB]?=some (.cells #[v] 229)/\w.ownsRow base 9 1 v ts.length (zdp ts)/\(v.ownBlock=own0\/∃g,v.ownBlock=some g/\n1<=g)/\v.ownBlock≠some TB
 hn:n1<=w.heap.size
 hb:base<=TB
 tb:TB<n1
 len:ts.length<=8
 toks:zbP ts
abbrev zi8 (TB n1:Nat) (own0:Option Nat) (w w':World):Prop:=zf (λi=>i=TB\/own0=some i\/n1<=i) w w'
theorem ZJ {w w':World} {base:Nat} {e:TypeId} {size:Nat} {v:Value} {n:Nat} {xs:List Value} (h:w.ownsRow base e size v n xs) (hs:∀i,v.ownBlock=some i->w'.heap[i]?=w.heap[i]?):w'.ownsRow base e size v n xs:=by
 refine⟨h.1,?_⟩;rcases h.2 with h0|⟨g,cap,cur,rfl,h1,h2,h3⟩
 ·exact .inl h0
 ·exact .inr ⟨g,cap,cur,rfl,h1,by rw[hs g rfl];exact h2,h3⟩
theorem zoL {w W w7:World} {TB base n1 g7 cap7:Nat} {own0:Option Nat} {ts:List (Option Nat)} {v:Value} {n:Nat} (hn:n<100) (HT:zeL w TB base n1 own0 ts) (hl:ts.length<8)
 (hb:w7.heap[TB]?=some (.cells #[v] 229)) (hown:v.ownBlock=own0\/∃g,v.ownBlock=some g/\n1<=g) (hne:v.ownBlock≠some TB)
 (hK:zi8 TB n1 own0 w W) (hW:w.heap.size<=W.heap.size) (hg:W.grownBy w7 v.ownBlock) (hr:w7.ownsRow base 9 1 (.slice (some ⟨g7,0,none⟩) (ts.length+1) cap7) (ts.length+1) (zdp ts ++ [zaF (Lib.decDigits n)])) (ho:v.ownBlock=some g7\/g7=W.heap.size):
 zeL (w7.setCell ⟨TB,0,none⟩ (.slice (some ⟨g7,0,none⟩) (ts.length+1) cap7)) TB base n1 own0 (ts ++ [some n])/\zi8 TB n1 own0 w (w7.setCell ⟨TB,0,none⟩ (.slice (some ⟨g7,0,none⟩) (ts.length+1) cap7)):=by
 have hg7:g7≠TB:=by
  rcases ho with e|e
  ·intro q;exact hne (by rw[e,q])
  ·have:=HT.tb;have:=HT.hn;omega
 refine⟨⟨⟨.slice (some ⟨g7,0,none⟩) (ts.length+1) cap7,zi hb 0 _,?_,?_,?_⟩,?_,HT.hb,HT.tb,by simp;omega,?_⟩,?_⟩
 ·rw[zoK,List.length_append];exact ZJ hr (λi hi=>Below.heap_setCell _ _ _ _ (by
   obtain rfl:g7=i:=by simpa[Value.ownBlock] using hi
   exact hg7))
 ·rcases ho with e|e
  ·rcases hown with q|⟨g,q,h1⟩
   ·exact .inl (by rw[←q,e];rfl)
   ·exact .inr ⟨g7,rfl,by rw[e] at q;cases q;exact h1⟩
  ·exact .inr ⟨g7,rfl,by have:=HT.hn;omega⟩
 ·simp[Value.ownBlock];exact hg7
 ·have:(w7.setCell ⟨TB,0,none⟩ (.slice (some ⟨g7,0,none⟩) (ts.length+1) cap7)).heap.size=w7.heap.size:=by simp[World.setCell]
  rw[this];have:=hg.size;have:=HT.hn;omega
 ·intro m hm;rcases List.mem_append.1 hm with e|e
  ·exact HT.toks m e
  ·simp at e;omega
 ·refine(hK.grown hg (λk hk _=>?_)).setCell _ _ (λ_=>.inl rfl);rcases hown with q|⟨g,q,h1⟩
  ·exact .inr (.inl (by rw[←q,hk]))
  ·rw[hk] at q;cases q;exact .inr (.inr h1)
theorem zvN (n:Nat) (TB base n1:Nat) (own0:Option Nat) (ts:List (Option Nat)) (w:World) (hn:n<100) (h:zeL w TB base n1 own0 ts) (hl:ts.length<8):
 ze zd.prog 235 #[.int .i64 n,.pointer (some ⟨TB,0,none⟩)] w λe w'=>e=.returned (.tuple #[])/\zeL w' TB base n1 own0 (ts ++ [some n])/\zi8 TB n1 own0 w w':=by
 obtain⟨v,hb,hrow,hown,hne⟩:=h.box;obtain⟨ti,i1,i2,i3,i4⟩:=zlb;have hc:=zd.strconv_Itoa_small n hn;have c0:w.cell? ⟨TB,0,none⟩=some v:=by rw[za hb];rfl
 have fr:=zg hb;have htb:=Nat.lt_of_lt_of_le h.tb h.hn;have hbs:=h.hb;have Hrow:=zH hrow;have Hb:=zH hb;have HT:=zH h;have Hown:=zH hown;have Hne:=zH hne;clear hrow hb hown hne h;go_in;go_wp2_with fail;go_region_law (first|(go_simp;go_at_call 236;refine sM (hc _) ?_)|(refine step_append_lies _ (by rfl) (.tmp 3) (.tmp 6) 229 (by rfl) base 9 ti _ 1 16 zd.underlying229 i1 i2 i3 i4 rfl (by decide) v ts.length (zdp ts) (by simp[Act.eval]) (ZJ Hrow.out (λi hi=>Below.heap_alloc w _ _ (Hrow.out.lt i hi).2)) ⟨w.heap.size,0,none⟩ 1 1 [zaF (Lib.decDigits n)] (by simp[Act.eval]) rfl (World.news_of_block (zh w _)) (by simp[Value.oneCell']) (by decide) (by unfold maxLen;omega) (by omega) (by simp;omega) _ rfl ?_;intro g7 cap7 w7 hr7 hg7 ho7 hl7;have hbk:=(hg7.block _ (by simp;omega) (λe=>Hne.out e.symm)).trans ((Below.heap_alloc w _ _ htb).trans Hb.out);have c7:w7.cell? ⟨TB,0,none⟩=some v:=za hbk 0;have f7:=zg hbk 0));all_goals
  obtain⟨T8,K8⟩:=zoL (W:=(w.alloc (.cells #[zaF (Lib.decDigits n)] 9)).drew) hn HT.out hl hbk Hown.out Hne.out ((zf.refl _ w).alloc _).drew (by simp) hg7 hr7 ho7;have HT8:=zH T8;have HK8:=zH K8;clear T8 K8 hg7 hr7 ho7;go_wp2_with fail;go_end0;exact⟨rfl,HT8.out,HK8.out⟩
abbrev zmC (TB:Nat):Value:=.func (.func 235) #[] #[.pointer (some ⟨TB,0,none⟩)]
def zda (TB base n1:Nat) (own0:Option Nat) (ts:List (Option Nat)) (w:World) (e:Ending) (w':World):Prop:=
 e=.returned (.tuple #[])/\zeL w' TB base n1 own0 ts/\zi8 TB n1 own0 w w'
theorem zmD (was is:Bool) (on off:Nat) (bw bi bo bf:Nat) (TB base n1:Nat) (own0:Option Nat) (ts:List (Option Nat)) (w:World) (hon:on<100) (hoff:off<100) (h:zeL w TB base n1 own0 ts) (hl:ts.length<8)
 (cw:w.cell? ⟨bw,0,none⟩=some (.bool was)) (ci:w.cell? ⟨bi,0,none⟩=some (.bool is)) (co:w.cell? ⟨bo,0,none⟩=some (.int .i64 on)) (cf:w.cell? ⟨bf,0,none⟩=some (.int .i64 off)):
 ze zd.prog 246 #[zmC TB,.pointer (some ⟨bi,0,none⟩),.pointer (some ⟨bw,0,none⟩),.pointer (some ⟨bo,0,none⟩),.pointer (some ⟨bf,0,none⟩)] w (zda TB base n1 own0 (ts++ZX was is on off) w):=by
 have HT:=zH h;have Ha:Hid (∀n:Nat,n<100->ze zd.prog 235 #[.int .i64 n,.pointer (some ⟨TB,0,none⟩)] w (zda TB base n1 own0 (ts ++ [some n]) w)):=λn hn=>zvN n TB base n1 own0 ts w hn HT.out hl;clear h;cases was<;>cases is
 ·have e:ts++ZX false false on off=ts:=by simp[ZX]
  rw[e];go_in;go_wp2_with fail;go_end0;exact⟨rfl,HT.out,zf.refl _ _⟩
 ·have e:ts++ZX false true on off=ts ++ [some on]:=by simp[ZX]
  rw[e];go_in;go_wp2_with fail;go_at_call 235;refine(Ha.out on hon).mono ?_;rintro e w1 ⟨rfl,h1,h2⟩;have H1:Hid (zda TB base n1 own0 (ts ++ [some on]) w (.returned (.tuple #[])) w1):=⟨rfl,h1,h2⟩;clear h1 h2;go_wp2_with fail;go_end0;exact H1.out
 ·have e:ts++ZX true false on off=ts ++ [some off]:=by simp[ZX]
  rw[e];go_in;go_wp2_with fail;go_at_call 235;refine(Ha.out off hoff).mono ?_;rintro e w1 ⟨rfl,h1,h2⟩;have H1:Hid (zda TB base n1 own0 (ts ++ [some off]) w (.returned (.tuple #[])) w1):=⟨rfl,h1,h2⟩;clear h1 h2;go_wp2_with fail;go_end0;exact H1.out
 ·have e:ts++ZX true true on off=ts:=by simp[ZX]
  rw[e];go_in;go_wp2_with fail;go_end0;exact⟨rfl,HT.out,zf.refl _ _⟩
theorem zlc (was is:Int) (first:Nat) (bw bi bf:Nat) (TB base n1:Nat) (own0:Option Nat) (ts:List (Option Nat)) (w:World) (h0:0<=is) (h8:is<=8) (hf:first<50) (hf1:1<=first) (h:zeL w TB base n1 own0 ts) (hl:ts.length<8)
 (cw:w.cell? ⟨bw,0,none⟩=some (.int .i64 was)) (ci:w.cell? ⟨bi,0,none⟩=some (.int .i64 is)) (cf:w.cell? ⟨bf,0,none⟩=some (.int .i64 first)):
 ze zd.prog 247 #[zmC TB,.pointer (some ⟨bi,0,none⟩),.pointer (some ⟨bw,0,none⟩),.pointer (some ⟨bf,0,none⟩)] w (zda TB base n1 own0 (ts++zbQ was is first) w):=by
 have HT:=zH h;have Ha:Hid (∀n:Nat,n<100->ze zd.prog 235 #[.int .i64 n,.pointer (some ⟨TB,0,none⟩)] w (zda TB base n1 own0 (ts ++ [some n]) w)):=λn hn=>zvN n TB base n1 own0 ts w hn HT.out hl;clear h;by_cases e1:is=was
 ·have e:ts++zbQ was is first=ts:=by simp[zbQ,e1]
  rw[e];go_in;go_wp2_with fail;go_end0;exact⟨rfl,HT.out,zf.refl _ _⟩
 ·by_cases e2:is=0
  ·have e:ts++zbQ was is first=ts ++ [some (first+9)]:=by unfold zbQ;rw[if_neg e1,if_pos e2]
   rw[e];have ec:((first:Int)+9)=((first+9:Nat):Int):=by omega
   have HA:Hid (ze zd.prog 235 #[.int .i64 ((first:Int)+9),.pointer (some ⟨TB,0,none⟩)] w (zda TB base n1 own0 (ts ++ [some (first+9)]) w)):=by rw[ec];exact Ha.out (first+9) (by omega)
   clear ec e;go_in;go_wp2_with fail;go_at_call 235;refine HA.out.mono ?_;rintro e w1 ⟨rfl,h1,h2⟩;have H1:Hid (zda TB base n1 own0 (ts ++ [some (first+9)]) w (.returned (.tuple #[])) w1):=⟨rfl,h1,h2⟩;clear h1 h2;go_wp2_with fail;go_end0;exact H1.out
  ·have e:ts++zbQ was is first=ts ++ [some (first+is.toNat-1)]:=by unfold zbQ;rw[if_neg e1,if_neg e2]
   rw[e];have ec:((first:Int)+is-1)=((first+is.toNat-1:Nat):Int):=by omega
   have HA:Hid (ze zd.prog 235 #[.int .i64 ((first:Int)+is-1),.pointer (some ⟨TB,0,none⟩)] w (zda TB base n1 own0 (ts ++ [some (first+is.toNat-1)]) w)):=by rw[ec];exact Ha.out (first+is.toNat-1) (by omega)
   clear ec e;go_in;go_wp2_with fail;go_at_call 235;refine HA.out.mono ?_;rintro e w1 ⟨rfl,h1,h2⟩;have H1:Hid (zda TB base n1 own0 (ts ++ [some (first+is.toNat-1)]) w (.returned (.tuple #[])) w1):=⟨rfl,h1,h2⟩;clear h1 h2;go_wp2_with fail;go_end0;exact H1.out
structure zaW (w:World) (b:Nat) (was is:Bool) (on off:Int):Prop where
 w0:w.heap[b]?=some (.cells #[.bool was] 4)
 w1:w.heap[b+1]?=some (.cells #[.bool is] 4)
 w2:w.heap[b+2]?=some (.cells #[.int .i64 on] 3)
 w3:w.heap[b+3]?=some (.cells #[.int .i64 off] 3)
abbrev zbz (b:Nat):Value:=.func (.func 246) #[] #[.pointer (some ⟨b+1,0,none⟩),.pointer (some ⟨b,0,none⟩),.pointer (some ⟨b+2,0,none⟩),.pointer (some ⟨b+3,0,none⟩)]
structure zdq (w:World) (b:Nat) (was is:Int) (first:Int):Prop where
 w0:w.heap[b]?=some (.cells #[.int .i64 was] 3)
 w1:w.heap[b+1]?=some (.cells #[.int .i64 is] 3)
 w2:w.heap[b+2]?=some (.cells #[.int .i64 first] 3)
abbrev zft (b:Nat):Value:=.func (.func 247) #[] #[.pointer (some ⟨b+1,0,none⟩),.pointer (some ⟨b,0,none⟩),.pointer (some ⟨b+2,0,none⟩)]
theorem zQ (w:World) (o:Obj) {i:Nat} (h:i<w.heap.size):(w.alloc o).heap[i]?=w.heap[i]?:=Below.heap_alloc w o _ h
theorem ZO (w:World) (o:Obj) {i:Nat} (h:i=w.heap.size):(w.alloc o).heap[i]?=some o:=by rw[h];exact zh w o
theorem zvO (was is:Bool) (on off:Int) (w:World):
 ze zd.prog 233 #[.bool was,.bool is,.int .i64 on,.int .i64 off] w λe w'=>∃b,e=.returned (zbz b)/\zaW w' b was is on off/\w.heap.size=b/\w'.heap.size=b+4/\Below w.heap.size w w':=by
 go_in;go_wp2_with fail;go_ret;refine⟨w.heap.size,rfl,⟨?_,?_,?_,?_⟩,rfl,by simp,((((Below.refl _ _).alloc (Nat.le_refl _) _).alloc (by simp) _).alloc (by simp;omega) _).alloc (by simp;omega) _⟩
 ·rw[zQ _ _ (by first|(simp;done)|(simp;omega)),zQ _ _ (by first|(simp;done)|(simp;omega)),zQ _ _ (by first|(simp;done)|(simp;omega)),ZO _ _ rfl]
 ·rw[zQ _ _ (by first|(simp;done)|(simp;omega)),zQ _ _ (by first|(simp;done)|(simp;omega)),ZO _ _ (by first|(simp;done)|(simp;omega))]
 ·rw[zQ _ _ (by first|(simp;done)|(simp;omega)),ZO _ _ (by first|(simp;done)|(simp;omega))]
 ·rw[ZO _ _ (by first|(simp;done)|(simp;omega))]
theorem zsQ (was is:Int) (first:Int) (w:World):
 ze zd.prog 234 #[.int .i64 was,.int .i64 is,.int .i64 first] w λe w'=>∃b,e=.returned (zft b)/\zdq w' b was is first/\w.heap.size=b/\w'.heap.size=b+3/\Below w.heap.size w w':=by
 go_in;go_wp2_with fail;go_ret;refine⟨w.heap.size,rfl,⟨?_,?_,?_⟩,rfl,by simp,(((Below.refl _ _).alloc (Nat.le_refl _) _).alloc (by first|(simp;done)|(simp;omega)) _).alloc (by first|(simp;done)|(simp;omega)) _⟩
 ·rw[zQ _ _ (by first|(simp;done)|(simp;omega)),zQ _ _ (by first|(simp;done)|(simp;omega)),ZO _ _ rfl]
 ·rw[zQ _ _ (by first|(simp;done)|(simp;omega)),ZO _ _ (by first|(simp;done)|(simp;omega))]
 ·rw[ZO _ _ (by first|(simp;done)|(simp;omega))]
end
end Go.Proofs.YtjlfibhbfdckpaaGreatDoor
