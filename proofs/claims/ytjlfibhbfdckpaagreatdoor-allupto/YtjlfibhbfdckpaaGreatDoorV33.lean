import Derived.Test.YtjlfibhbfdckpaaGreatDoorV32
namespace Go.Proofs.YtjlfibhbfdckpaaGreatDoor
set_option maxHeartbeats 64000000
set_option maxRecDepth 100000
section
open Go.RowKit
open Wd (wd)
attribute [local go_sem ↓] Go.wp_at_zero Go.wp_at_succ
theorem zsr (n b0 b1 b2 b3:Nat) (h0:b0<256):(zdq n b0 b1 b2 b3).1<=2097151:=by
 unfold zdq
 repeat' split
 all_goals (dsimp only;omega)
theorem zor (s:ByteArray):∀(f pos:Nat),∀r∈Zh s f pos,0<=r/\r<=2097151:=by
 intro f;induction f with
 |zero=>intro pos r hr;simp[Zh] at hr
 |succ f ih=>
  intro pos r hr;unfold Zh at hr;split at hr
  ·rcases List.mem_cons.1 hr with e|hr
   ·split at e
    ·omega
    ·have:=zsr (s.size-pos) (s.get! pos).toNat (s.get! (pos+1)).toNat (s.get! (pos+2)).toNat (s.get! (pos+3)).toNat (s.get! pos).toNat_lt;rw[zgH] at e;omega
   ·exact ih _ r hr
  ·simp at hr
section
variable {R:Rm} {L:List Wn} {last:Int}
theorem zss (ok:ZK L last) (w:World) (h:Zq w R L last) (v:Wn) (j:Nat) (hj:L[j]?=some v) (hne:∀i u,i<j->L[i]?=some u->u.n≠v.n) (x y:Int) (hpl:Zt x y=true) (b:ByteArray) (hb:b.size<=200) (p:Pn) (hpn:zdA p=true):
 Calls Tryz.prog 32 #[.pointer (some ⟨R.d,0,none⟩),.int .i64 v.n,.int .i64 x,.int .i64 y,.string b,p.agg] w (Zr R L (zY L v.n (λu=>{u with G:=writeAll v.W v.H y p x (Zh b b.size 0) v.G})) last w (.int .i64 0)):=by
 have hrle:=zor b b.size 0;have hrok:=ziN b b.size 0;obtain⟨rl,hrl⟩:∃rl,Zh b b.size 0=rl:=⟨_,rfl⟩;rw[hrl] at hrle hrok ⊢;have Hrl:=zH hrl;have Hle:=zH hrle;have Hrk:=zH hrok;clear hrle hrok hrl;have hv:=List.mem_of_getElem? hj;have hb1:Below w.heap.size w (w.alloc (.cells #[.int .i64 p.f,.int .i64 p.b,.bool p.bo,.bool p.un,.bool p.re] 33)):=(Below.refl _ _).alloc (Nat.le_refl _) _;have HRa:=zH<|h.below hb1
 have P1:=ZO w p 33;have H:=zH<|zbq ok _ HRa.out v j hj hne
 obtain⟨p0,p1,p2,p3,p4⟩:=id P1;have hx:=zbH.1 hpl;have hjl:=(List.getElem?_eq_some_iff.1 hj).1;have hjl':(j:Int)<(L.length:Int):=by omega
 have hj1:¬(j:Int)<0:=by omega
 have lg:=h.lt (zfm R hv);have hb':¬(200:Int)<(b.size:Int):=by omega
 have Hj:=zH hj;clear h hj hne;go_in;go_wp2_with (first|(go_at_call 79;refine sM H.out ?_)|(go_at_call 80;refine sM (zbk _ _ _) ?_));go_at_call 81;refine(znn p _).mono ?_;rw[hpn];rintro e wb ⟨rfl,hbb⟩;have HRb:=zH<|HRa.out.below hbb
 have P2:=P1.same (hbb.block _ P1.lt);have K2:=zH<|hb1.trans (hbb.mono hb1.size)
 clear p0 p1 p2 p3 p4 P1 hbb HRa hb1 H;go_wp2_with fail;go_at_call 82;refine(zoq b _ hb).mono ?_;rw[Hrl.out];rintro e wc ⟨lv,rfl,hrow,hr2,hbc⟩;have HRc:=zH<|HRb.out.below hbc
 have P3:=P2.same (hbc.block _ P2.lt);have K3:=zH<|K2.out.trans (hbc.mono K2.out.size)
 have Hrow:=zH hrow;have lgb:=HRb.out.lt (zfm R hv);have hlen:∃a cap,lv=.slice a rl.length cap:=by
  rcases hrow.2 with⟨e,e2⟩|⟨g,cap,cur,e,_⟩
  ·exact⟨none,0,by rw[e,e2]⟩
  ·exact⟨_,cap,e⟩
 obtain⟨la,lcap,rfl⟩:=hlen;clear hrow hbc P2 K2 HRb;obtain⟨g,cap,hl,hw,hfz,_⟩:=HRc.out.sl ok.one;have d0:=HRc.out.d0;rw[hl] at d0;obtain⟨c0,c1,c2,c3,c4,c5⟩:=hw j v Hj.out;have ngd:=HRc.out.ne (p:=.top 0) (q:=.win v.n 1) (show 0<2 by omega) ⟨by omega,v,hv,rfl⟩ rfl rfl (by simp);have ngg:g≠R.g v.n:=HRc.out.ne (p:=.top 1) (q:=.win v.n 1) (show 1<2 by omega) ⟨by omega,v,hv,rfl⟩ (by show R.l.ownBlock=_;rw[hl];rfl) rfl (by simp);have ldd:=HRc.out.lt (zbp R L);have ldg:g<wc.heap.size:=HRc.out.lt (zc1 R L (by rw[hl];rfl));clear hw hl c0 c1 c2 c3 c4;go_wp2_with fail;go_loopw[2,17] (λxv kv w'=>∃(k:Nat) (xx:Int) (G:Nat->Nat->zk),k<=rl.length/\xv=.int .i64 xx/\kv=.int .i64 k/\-1000<=xx/\xx<=1000+2*k/\Wf v.W v.H G/\writeAll v.W v.H y p xx (rl.drop k) G=writeAll v.W v.H y p x rl v.G/\Zp w' (R.c v.n) (R.g v.n) (R.cap v.n) v.W v.H (v.H*v.W) G/\zd (λi=>i=R.g v.n) wc w') (λ_ kv _=>300-(intOf kv).toNat)
 case atStart=>exact⟨0,x,v.G,by omega,rfl,rfl,by omega,by omega,HRc.out.wf v hv,rfl,HRc.out.win v hv,zd.refl _ _⟩
 case round=>
  obtain⟨k,xx,G,hk,rfl,rfl,hx0,hx1,hwf,hwa,hC,hK⟩:=hrel;have HC:=zH hC;have HK:=zH hK;have Hwf:=zH hwf;have Hwa:=zH hwa;clear hwa hwf hC;by_cases hlt:k<rl.length
  ·have hlt':(k:Int)<(rl.length:Int):=by omega
   obtain⟨r,hr⟩:∃r,rl[k]?=some r:=⟨_,List.getElem?_eq_getElem hlt⟩;obtain⟨r0,r1⟩:=Hle.out r (List.mem_of_getElem? hr);have hwr:=Hrk.out r (List.mem_of_getElem? hr);have hdr:rl.drop k=r::rl.drop (k+1):=by rw[List.drop_eq_getElem_cons hlt];congr 1;rw[List.getElem?_eq_getElem hlt] at hr;injection hr
   obtain⟨lg2,lc2,e2⟩:=zam Hrow.out (by omega);obtain⟨rfl,rfl⟩:la=some ⟨lg2,0,none⟩/\lcap=lc2:=by simpa using e2
   have hlg:=(Hrow.out.lt lg2 rfl);have rc0:=zop Hrow.out k r hr;have nlg:lg2≠R.g v.n:=by omega
   have rc:=(Zj (hK.block _ hlg.2 nlg) k).trans rc0;have d0r:wr.cell? ⟨R.d,0,none⟩=_:=(Zj (hK.block _ ldd ngd) 0).trans d0;have c5r:wr.cell? ⟨g,j*6+5,none⟩=_:=(Zj (hK.block _ ldg ngg) (j*6+5)).trans c5;have Pr:=P3.same (hK.block _ P3.lt (by omega));obtain⟨p0,p1,p2,p3,p4⟩:=id Pr;simp only[Nat.zero_add] at p1 p2 p3 p4;have HPr:=zH Pr;have lz:=hK.size;have Hz:Hid (R.d<wr.heap.size/\g<wr.heap.size/\lg2<wr.heap.size/\w.heap.size<wr.heap.size/\w.heap.size≠R.g v.n):=⟨by omega,by omega,by omega,Pr.lt,by omega⟩;have HCd:Hid (Zp wr.drew (R.c v.n) (R.g v.n) (R.cap v.n) v.W v.H (v.H*v.W) G):=HC.out.same rfl rfl;have Hwa2:Hid (writeAll v.W v.H y p (xx+wd r) (rl.drop (k+1)) (zR v.W v.H G xx y r p)=writeAll v.W v.H y p x rl v.G):=by
    have:=Hwa.out;rw[hdr] at this;exact this
   have hw2:wd r<=2:=by omega
   have hw1:1<=wd r:=by omega
   have sxx:IntKind.i64.wrap (xx+wd r)=xx+wd r:=zm _ (by omega) (by omega);have Hwr:=zH hwr;clear hr rc0 hK e2 hdr Pr lz hwr;go_wp2_with fail;go_region_held3 (λw'=>w'.cell? ⟨R.d,0,none⟩=some (.slice (some ⟨g,0,none⟩) L.length cap)/\w'.cell? ⟨g,j*6+5,none⟩=some (.pointer (some ⟨R.c v.n,0,none⟩))/\w'.cell? ⟨lg2,k,none⟩=some (.int .i32 r)/\w'.cell? ⟨w.heap.size,0,none⟩=some (.int .i64 p.f)/\w'.cell? ⟨w.heap.size,1,none⟩=some (.int .i64 p.b)/\w'.cell? ⟨w.heap.size,2,none⟩=some (.bool p.bo)/\w'.cell? ⟨w.heap.size,3,none⟩=some (.bool p.un)/\w'.cell? ⟨w.heap.size,4,none⟩=some (.bool p.re)) (simp[*]) (first|(go_at_call 83;refine(zkn (R.c v.n) (R.g v.n) (R.cap v.n) v.W v.H _ G xx y r p _ HCd.out Hwf.out (by omega) (by omega) (by omega) (by omega)).mono ?_;rintro e w6 ⟨rfl,C6,K6⟩;have HC6:=zH<|C6;have HK6:Hid (zd (λi=>i=R.g v.n) wr w6):=⟨K6.os,K6.tape,K6.output,K6.size,K6.block⟩;have t1:=(Zj (HK6.out.block _ Hz.out.1 ngd) 0).trans d0r;have t2:=(Zj (HK6.out.block _ Hz.out.2.1 ngg) (j*6+5)).trans c5r;have t3:=(Zj (HK6.out.block _ Hz.out.2.2.1 nlg) k).trans rc;obtain⟨u0,u1,u2,u3,u4⟩:=HPr.out.same (HK6.out.block _ Hz.out.2.2.2.1 Hz.out.2.2.2.2);simp only[Nat.zero_add] at u1 u2 u3 u4;clear C6 K6));clear d0r c5r rc p0 p1 p2 p3 p4 t1 t2 u0 u1 u2 u3 u4;go_wp2_with fail;clear t3;go_at_call 65;refine(Wd.refWidth r _ (by omega) (by omega)).mono ?_;rintro e w7 ⟨rfl,b7⟩;have HC7:=zH<|HC6.out.below b7
   have HK7:=zH<|(HK.out.trans HK6.out (λ_ _ h=>h)).trans (zd.below _ b7) (λ_ _ h=>h)
   clear b7 HC6 HK6;go_wp2_with fail;go_roundw
   case rel=>exact⟨k+1,xx+wd r,zR v.W v.H G xx y r p,by omega,rfl,by simp,by omega,by omega,Hwf.out.write xx y r p Hwr.out,Hwa2.out,HC7.out,HK7.out⟩
   case measure=>simp[intOf];omega
  ·have hlt':¬(k:Int)<(rl.length:Int):=by omega
   have HP:Hid (Zr R L (zY L v.n (λu=>{u with G:=writeAll v.W v.H y p x rl v.G})) last w (.int .i64 0) (.returned (.int .i64 0)) wr):=by
    have e0:writeAll v.W v.H y p x rl v.G=G:=by rw[←Hwa.out,List.drop_eq_nil_of_le (by omega)];rfl
    rw[e0];obtain⟨R',e1,D1,t1,k1,o1⟩:=HRc.out.setG ok hv v.W v.H (R.g v.n) (R.cap v.n) G Hwf.out HC.out (HK.out.mono (λi e=>.inr e)) (.inl rfl) (.int .i64 0);rw[zjN ok hv] at D1 o1;exact⟨R',e1,D1,t1,(zd.below _ K3.out).trans k1 (λ_ _ h=>h),λi hi=>(o1 i hi).imp id (λh=>by have:=K3.out.size;omega)⟩
   go_wp2_with fail;go_ret;exact HP.out
end
end
section
open Go.RowKit
section
variable {L:List Wn} {last:Int}
theorem Calls.below {f:Nat} {a:Array Value} {w:World} {r:Value} (h:Calls Tryz.prog f a w λe w'=>e=.returned r/\w'=w):Calls Tryz.prog f a w λe w'=>e=.returned r/\Below w.heap.size w w' :=
 h.mono (by rintro e w' ⟨rfl,rfl⟩;exact⟨rfl,Below.refl _ _⟩)
theorem zdG (ok:ZK L last) {n:Int} (he:zU L n=0):∃v∈L,v.n=n/\v.n≠0/\v.par≠-1/\(∃o∈L,v.par=o.n/\v.n≠o.n)/\∃j:Nat,j≠0/\L[j]?=some v/\∀(i:Nat) (u:Wn),i<j->L[i]?=some u->u.n≠v.n:=by
 obtain⟨rk,K,T⟩:=ok.tree;unfold zU at he;rcases zgG ok n with⟨v,hv,rfl,j,hjl,hj,hne,_,h0⟩|hn
 ·have hh:=zaX.2 ⟨v,hv,rfl⟩;rw[if_neg (by simp[hh])] at he;have e0:v.n≠0:=λe=>by rw[if_pos e] at he;omega
  have hp:v.par≠-1:=λe=>e0 ((T.zero hv).2 e);have hp0:0<=v.par:=by rcases T.parNot hv with e|e<;>omega
  obtain⟨⟨o,ho,hon⟩,hr⟩:=T.up v hv hp0;refine⟨v,hv,rfl,e0,hp,⟨o,ho,hon.symm,λe=>?_⟩,j,λe=>e0 (h0.1 e),hj,hne⟩;rw[hon] at e;rw[e] at hr;omega
 ·rw[if_pos hn] at he;omega
theorem zhN (ok:ZK L last) {n:Int} (he:zch L n=true):∃v∈L,v.n=n/\∃j:Nat,L[j]?=some v/\∀(i:Nat) (u:Wn),i<j->L[i]?=some u->u.n≠v.n:=by
 rcases zgG ok n with⟨v,hv,rfl,j,hjl,hj,hne,_,h0⟩|hn
 ·exact⟨v,hv,rfl,j,hj,hne⟩
 ·rw[hn] at he;simp at he
end
end
section
open Go.RowKit
attribute [local go_sem ↓] Go.wp_at_zero Go.wp_at_succ
structure Ca where
 kd:Int
 on:Int
 a:Int
 b:Int
 c:Int
 d:Int
 e:Int
 s:ByteArray
 p:Pn
abbrev Ca.arr (o:Ca):Array Value:=#[.int .i64 o.kd,.int .i64 o.on,.int .i64 o.a,.int .i64 o.b,.int .i64 o.c,.int .i64 o.d,.int .i64 o.e,.string o.s,.int .i64 o.p.f,.int .i64 o.p.b,.bool o.p.bo,.bool o.p.un,.bool o.p.re]
abbrev Ca.agg (o:Ca):Value:=.agg o.arr
abbrev zaE (x y s:Option Addr):Array Value:=#[.pointer x,.pointer y,.pointer s]
def zgX (w:World) (b:Nat) (o:Ca):Prop:=w.heap[b]?=some (.cells o.arr 35)
def zeA (w:World) (b:Nat) (x y s:Option Addr):Prop:=w.heap[b]?=some (.cells (zaE x y s) 28)
section
variable {w w':World} {b:Nat} {o:Ca} {x y s:Option Addr}
theorem zgX.lt (h:zgX w b o):b<w.heap.size:=(Array.getElem?_eq_some_iff.1 h).1
theorem zeA.lt (h:zeA w b x y s):b<w.heap.size:=(Array.getElem?_eq_some_iff.1 h).1
theorem zgX.keep {F:Nat->Prop} (h:zgX w b o) (k:zd F w w') (hF:¬F b):zgX w' b o:=by unfold zgX at *;rw[k.block _ (Array.getElem?_eq_some_iff.1 h).1 hF];exact h
theorem zeA.keep {F:Nat->Prop} (h:zeA w b x y s) (k:zd F w w') (hF:¬F b):zeA w' b x y s:=by unfold zeA at *;rw[k.block _ (Array.getElem?_eq_some_iff.1 h).1 hF];exact h
theorem zgX.below (h:zgX w b o) (k:Below w.heap.size w w'):zgX w' b o:=h.keep (zd.below (λ_=>False) k) id
theorem zeA.below (h:zeA w b x y s) (k:Below w.heap.size w w'):zeA w' b x y s:=h.keep (zd.below (λ_=>False) k) id
theorem zgX.cells (h:zgX w b o):w.cell? ⟨b,0,none⟩=some (.int .i64 o.kd)/\w.cell? ⟨b,1,none⟩=some (.int .i64 o.on)/\w.cell? ⟨b,2,none⟩=some (.int .i64 o.a)/\w.cell? ⟨b,3,none⟩=some (.int .i64 o.b)/\w.cell? ⟨b,4,none⟩=some (.int .i64 o.c)/\w.cell? ⟨b,5,none⟩=some (.int .i64 o.d)/\w.cell? ⟨b,6,none⟩=some (.int .i64 o.e)/\w.cell? ⟨b,7,none⟩=some (.string o.s)/\w.cell? ⟨b,8,none⟩=some (.int .i64 o.p.f)/\w.cell? ⟨b,9,none⟩=some (.int .i64 o.p.b)/\w.cell? ⟨b,10,none⟩=some (.bool o.p.bo)/\w.cell? ⟨b,11,none⟩=some (.bool o.p.un)/\w.cell? ⟨b,12,none⟩=some (.bool o.p.re):=
 ⟨za h 0,za h 1,za h 2,za h 3,za h 4,za h 5,za h 6,za h 7,za h 8,za h 9,za h 10,za h 11,za h 12⟩
theorem zeA.cells (h:zeA w b x y s):w.cell? ⟨b,0,none⟩=some (.pointer x)/\w.cell? ⟨b,1,none⟩=some (.pointer y)/\w.cell? ⟨b,2,none⟩=some (.pointer s):=⟨za h 0,za h 1,za h 2⟩
end
theorem ZP.after {w wA w':World} {D D':Dv} (h:ZP wA D D' w') (b:Below w.heap.size w wA):ZP w D D' w' :=
 ⟨h.dv,h.xp,h.yp,h.sp,(zd.below _ b).trans h.keep (λ_ _ q=>q),λi hi=>(h.own i hi).imp id (λe=>by have:=b.size;omega)⟩
theorem zkS {w wA:World} {x y s:Option Addr} {o:Ca} (h:(w.alloc (.cells (zaE x y s) 28)).alloc (.cells o.arr 35)=wA):Hid (Below w.heap.size w wA)/\Hid (zeA wA w.heap.size x y s)/\Hid (zgX wA (w.heap.size+1) o):=by
 subst h;refine⟨((Below.refl _ _).alloc (Nat.le_refl _) _).alloc (by simp) _,?_,?_⟩
 ·show _=_;rw[Below.heap_alloc _ _ _ (by simp)];exact zf w _
 ·have:=zf (w.alloc (.cells (zaE x y s) 28)) (.cells o.arr 35);rw[size_alloc] at this;exact this
abbrev MvC (fn:Nat) (k on A B C E F:Int) (tx:ByteArray) (p:Pn) (f f2:Nat) (a:List Value) (r:Value):Prop:=k=1/\fn=40/\f=48/\f2=96/\a=[.int .i64 A,.int .i64 B,.int .i64 C,.int .i64 E,.int .i64 F]/\(∃r1 r2,r=.tuple #[.int .i64 r1,.int .i64 r2])\/k=2/\fn=40/\f=49/\f2=97/\a=[.int .i64 A]/\(∃q,r=.int .i64 q)\/k=3/\fn=40/\f=50/\f2=98/\a=[.int .i64 A,.int .i64 B,.int .i64 C]/\(∃q,r=.int .i64 q)\/k=4/\fn=40/\f=51/\f2=99/\a=[.int .i64 A,.int .i64 B,.int .i64 C]/\(∃q,r=.int .i64 q)\/k=5/\fn=40/\f=52/\f2=100/\a=[.int .i64 A,.bool (on.tmod 2==0)]/\(∃q,r=.int .i64 q)\/k=6/\fn=40/\f=53/\f2=101/\a=[.int .i64 A,.bool (on.tmod 2==0)]/\(∃q,r=.int .i64 q)\/k=7/\fn=40/\f=54/\f2=102/\a=[.int .i64 A,.int .i64 B]/\(∃q,r=.int .i64 q)\/k=8/\fn=10/\f=31/\f2=32/\a=[.int .i64 A,.int .i64 B,.int .i64 C,.string tx,p.agg]/\(∃q,r=.int .i64 q)\/k=9/\fn=10/\f=33/\f2=34/\a=[.int .i64 A,.int .i64 B,.int .i64 C,.int .i64 E,.int .i64 F,p.agg]/\(∃q,r=.int .i64 q)\/k=10/\fn=10/\f=35/\f2=36/\a=[.int .i64 A,.int .i64 B]/\(∃q,r=.int .i64 q)
theorem zaz {w:World} {x y s:Option Addr} (k on A B C E F:Int) (tx:ByteArray) (p:Pn) {fn f f2:Nat} {a:List Value} {r:Value} (hk:MvC fn k on A B C E F tx p f f2 a r) {O:Nat->Prop} {Q:World->World->Prop} (hO:∀i,O i->i<w.heap.size) (hB:∀wA,Below w.heap.size w wA->zb0 f f2 (λq=>(.pointer q::a).toArray) x y wA r O (Q wA)):
 Calls Tryz.prog fn #[.agg (zaE x y s),Ca.agg ⟨k,on,A,B,C,E,F,tx,p⟩] w λe w'=>e=.returned (.bool true)/\∃wA,Below w.heap.size w wA/\Q wA w':=by
 have HB:=zH hB;have HO:=zH hO;clear hB hO;rcases hk with⟨rfl,rfl,rfl,rfl,rfl,r1,r2,rfl⟩|⟨rfl,rfl,rfl,rfl,rfl,r1,rfl⟩|⟨rfl,rfl,rfl,rfl,rfl,r1,rfl⟩|⟨rfl,rfl,rfl,rfl,rfl,r1,rfl⟩|⟨rfl,rfl,rfl,rfl,rfl,r1,rfl⟩|⟨rfl,rfl,rfl,rfl,rfl,r1,rfl⟩|⟨rfl,rfl,rfl,rfl,rfl,r1,rfl⟩|⟨rfl,rfl,rfl,rfl,rfl,r1,rfl⟩|⟨rfl,rfl,rfl,rfl,rfl,r1,rfl⟩|⟨rfl,rfl,rfl,rfl,rfl,r1,rfl⟩;all_goals
  go_in;go_wp2_with fail;generalize hwA:World.alloc (w.alloc _) _=wA;obtain⟨Hba,Hd,Hc⟩:=zkS (o:=⟨_,on,A,B,C,E,F,tx,p⟩) hwA;first|go_at_call 48|go_at_call 49|go_at_call 50|go_at_call 51|go_at_call 52|go_at_call 53|go_at_call 54|go_at_call 31|go_at_call 33|go_at_call 35
  refine Calls.mono (HB.out wA Hba.out) ?_;rintro e w1 ⟨rfl,k1,hy⟩;have Hy:=zH hy;replace Hd:=zH (Hd.out.keep k1 (λq=>by have:=HO.out _ q;omega));replace Hc:=zH (Hc.out.keep k1 (λq=>by have:=HO.out _ q;omega));obtain⟨d0,d1,d2⟩:=Hd.out.cells;obtain⟨c0,c1,c2,c3,c4,c5,c6,c7,c8,c9,c10,c11,c12⟩:=Hc.out.cells;clear hy k1 hwA;go_wp2_with fail;first|go_at_call 96|go_at_call 97|go_at_call 98|go_at_call 99|go_at_call 100|go_at_call 101|go_at_call 102|go_at_call 32|go_at_call 34|go_at_call 36
  refine Calls.mono Hy.out ?_;rintro e w2 ⟨rfl,k2,hq⟩;have Hq:=zH hq;clear d0 d1 d2 c0 c1 c2 c3 c4 c5 c6 c7 c8 c9 c10 c11 c12 hq k2;go_wp2_with fail;go_ret;exact⟨rfl,wA,Hba.out,Hq.out⟩
theorem zkT {w:World} {x y s:Option Addr} (o:Ca) (h1:o.kd≠1) (h2:o.kd≠2) (h3:o.kd≠3) (h4:o.kd≠4) (h5:o.kd≠5) (h6:o.kd≠6) (h7:o.kd≠7):
 Calls Tryz.prog 40 #[.agg (zaE x y s),o.agg] w λe w'=>e=.returned (.bool true)/\Below w.heap.size w w':=by
 obtain⟨kd,on,A,B,C,E,F,tx,p⟩:=o;dsimp only at h1 h2 h3 h4 h5 h6 h7;have q1:(kd==1)=false:=by simpa using h1
 have q2:(kd==2)=false:=by simpa using h2
 have q3:(kd==3)=false:=by simpa using h3
 have q4:(kd==4)=false:=by simpa using h4
 have q5:(kd==5)=false:=by simpa using h5
 have q6:(kd==6)=false:=by simpa using h6
 have q7:(kd==7)=false:=by simpa using h7
 go_in;go_wp2_with fail;go_ret;exact⟨rfl,((Below.refl _ _).alloc (Nat.le_refl _) _).alloc (by simp) _⟩
theorem znq {w:World} {x y s:Option Addr} (on A B C E F:Int) (tx:ByteArray) (p:Pn) {r:Int} {O:Nat->Prop} {Q:World->World->Prop} (hO:∀i,O i->i<w.heap.size) (hB:∀wA,Below w.heap.size w wA->zb0 18 37 (λq=>#[.pointer q,.int .i64 A,.int .i64 B]) x y wA (.int .i64 r) O (Q wA)) {Q':World->World->Prop} (hT:∀wA w2,Q wA w2->Calls Tryz.prog 38 #[.pointer s,.int .i64 A,.int .i64 B] w2 λe w3=>∃r3:Int,e=.returned (.int .i64 r3)/\Q' wA w3):
 Calls Tryz.prog 10 #[.agg (zaE x y s),Ca.agg ⟨11,on,A,B,C,E,F,tx,p⟩] w λe w'=>e=.returned (.bool true)/\∃wA,Below w.heap.size w wA/\Q' wA w':=by
 have HB:=zH hB;have HO:=zH hO;have HT:=zH hT;clear hB hO hT;go_in;go_wp2_with fail;generalize hwA:World.alloc (w.alloc _) _=wA;obtain⟨Hba,Hd,Hc⟩:=zkS (o:=⟨_,on,A,B,C,E,F,tx,p⟩) hwA;clear hwA;have Hd0:=Hd;have Hc0:=Hc;go_at_call 18;refine(HB.out wA Hba.out).mono ?_;rintro e w1 ⟨rfl,k1,hy⟩;have Hy:Hid (Calls Tryz.prog 37 #[.pointer y,.int .i64 A,.int .i64 B] w1 λe w2=>e=.returned (.int .i64 r)/\zd O wA w2/\Q wA w2):=hy;replace Hd:=zH<|Hd.out.keep k1 (λq=>by have:=HO.out _ q;omega)
 replace Hc:=zH<|Hc.out.keep k1 (λq=>by have:=HO.out _ q;omega)
 obtain⟨d0,d1,d2⟩:=Hd.out.cells;obtain⟨c0,c1,c2,c3,c4,c5,c6,c7,c8,c9,c10,c11,c12⟩:=Hc.out.cells;clear hy k1;go_wp2_with fail;go_at_call 37;refine Hy.out.mono ?_;rintro e w2 ⟨rfl,k2,hq⟩;have Hq:=zH hq;replace Hd:=zH<|Hd0.out.keep k2 (λq=>by have:=HO.out _ q;omega)
 replace Hc:=zH<|Hc0.out.keep k2 (λq=>by have:=HO.out _ q;omega)
 clear d0 d1 d2 c0 c1 c2 c3 c4 c5 c6 c7 c8 c9 c10 c11 c12 hq k2;obtain⟨d0,d1,d2⟩:=Hd.out.cells;obtain⟨c0,c1,c2,c3,c4,c5,c6,c7,c8,c9,c10,c11,c12⟩:=Hc.out.cells;go_wp2_with fail;go_at_call 38;refine(HT.out wA w2 Hq.out).mono ?_;rintro e w3 ⟨r3,rfl,hq3⟩;have Hq3:=zH hq3;clear d0 d1 d2 c0 c1 c2 c3 c4 c5 c6 c7 c8 c9 c10 c11 c12 hq3;go_wp2_with fail;go_ret;exact⟨rfl,wA,Hba.out,Hq3.out⟩
theorem zfo {w:World} {x y s:Option Addr} (o:Ca) (h8:o.kd≠8) (h9:o.kd≠9) (h10:o.kd≠10) (h11:o.kd≠11) (h12:o.kd≠12) (h13:o.kd≠13) {Q:World->World->Prop}
 (hM:∀wA,Below w.heap.size w wA->Calls Tryz.prog 40 #[.agg (zaE x y s),o.agg] wA λe w'=>e=.returned (.bool true)/\Q wA w'):
 Calls Tryz.prog 10 #[.agg (zaE x y s),o.agg] w λe w'=>e=.returned (.bool true)/\∃wA,Below w.heap.size w wA/\Q wA w':=by
 obtain⟨kd,on,A,B,C,E,F,tx,p⟩:=o;dsimp only at h8 h9 h10 h11 h12 h13;have q1:(kd==8)=false:=by simpa using h8
 have q2:(kd==9)=false:=by simpa using h9
 have q3:(kd==10)=false:=by simpa using h10
 have q4:(kd==11)=false:=by simpa using h11
 have q5:(kd==12)=false:=by simpa using h12
 have q6:(kd==13)=false:=by simpa using h13
 have HM:=zH hM;clear hM h8 h9 h10 h11 h12 h13;go_in;go_wp2_with fail;generalize hwA:World.alloc (w.alloc _) _=wA;obtain⟨Hba,Hd,Hc⟩:=zkS (o:=⟨_,on,A,B,C,E,F,tx,p⟩) hwA;clear hwA;go_at_call 40;refine(HM.out wA Hba.out).mono ?_;rintro e w1 ⟨rfl,hq⟩;have Hq:=zH hq;clear hq;go_wp2_with fail;go_ret;exact⟨rfl,wA,Hba.out,Hq.out⟩
def OAt (w:World) (O:Option Dv) (x y s:Option Addr):Prop:=match O with
 |none=>x=none/\y=none/\s=none
 |some D=>x=D.xp/\y=D.yp/\s=D.sp/\zc2 w D
def zdr (O:Option Dv) (i:Nat):Prop:=match O with
 |none=>False
 |some D=>D.own i
section
variable {w w':World} {O:Option Dv} {x y s:Option Addr}
theorem OAt.keep {F:Nat->Prop} (h:OAt w O x y s) (k:zd F w w') (hF:∀i,zdr O i->¬F i):OAt w' O x y s:=by
 cases O with
 |none=>exact h
 |some D=>exact⟨h.1,h.2.1,h.2.2.1,h.2.2.2.keep k hF⟩
theorem OAt.below (h:OAt w O x y s) (b:Below w.heap.size w w'):OAt w' O x y s:=h.keep (zd.below (λ_=>False) b) (λ_ _ f=>f)
theorem OAt.lt (h:OAt w O x y s) {i:Nat} (hi:zdr O i):i<w.heap.size:=by
 cases O with
 |none=>exact hi.elim
 |some D=>exact h.2.2.2.lt hi
theorem ztK (h:OAt w O x y s) (a b:Int):∃(c:zk) (er:Int),(∀w',OAt w' O x y s->Calls Tryz.prog 11 #[.pointer x,.int .i64 a,.int .i64 b] w' λe w''=>e=.returned (.tuple #[c.agg,.int .i64 er])/\Below w'.heap.size w' w'') ∧
 (∀w',OAt w' O x y s->Calls Tryz.prog 39 #[.pointer y,.int .i64 a,.int .i64 b] w' λe w''=>e=.returned (.tuple #[c.agg,.int .i64 er])/\Below w'.heap.size w' w''):=by
 cases O with
 |none=>
  obtain⟨rfl,rfl,rfl⟩:=h;exact⟨noC,1,λw' _=>zp0 w' a b,λw' _=>zok w' a b⟩
 |some D=>
  obtain⟨rfl,rfl,rfl,h⟩:=h;obtain⟨rk,K,T⟩:=h.ok.tree;obtain⟨r,t,e,h0,h1,h2⟩:=T.head;have hr:r∈D.L:=by rw[e];exact List.mem_cons_self
  have hr0:D.L[0]?=some r:=by rw[e];rfl
  cases hin:inG r.W r.H a b with
  |false=>exact⟨noC,4,λw' q=>zpZ w' q.2.2.2.x r hr h0 a b hin,λw' q=>zol h.ok w' q.2.2.2.y r hr0 a b hin⟩
  |true=>
   obtain⟨a1,a2,b1,b2⟩:=zu.1 hin;obtain⟨a,rfl⟩:=Int.eq_ofNat_of_zero_le a1;obtain⟨b,rfl⟩:=Int.eq_ofNat_of_zero_le b1;exact⟨zcx D.L K r a b,0,λw' q=>ztB T h.ok w' q.2.2.2.x r hr h0 a b (by omega) (by omega),λw' q=>zhC T h.ok w' q.2.2.2.y r hr0 a b hin⟩
theorem zf8 (h:OAt w O x y s):Calls Tryz.prog 27 #[.agg (zaE x y s)] w λe w'=>e=.returned (.bool true)/\Below w.heap.size w w':=by
 have HP:=zH h;have HcB:Hid (∀(a b:Int),∃(c:zk) (er:Int),(∀w',OAt w' O x y s->Calls Tryz.prog 11 #[.pointer x,.int .i64 a,.int .i64 b] w' λe w''=>e=.returned (.tuple #[c.agg,.int .i64 er])/\Below w'.heap.size w' w'') ∧
  (∀w',OAt w' O x y s->Calls Tryz.prog 39 #[.pointer y,.int .i64 a,.int .i64 b] w' λe w''=>e=.returned (.tuple #[c.agg,.int .i64 er])/\Below w'.heap.size w' w'')):=λa b=>ztK h a b
 clear h;go_in;go_wp2_with fail;have hbl:Below w.heap.size w (w.alloc (.cells (zaE x y s) 28)):=(Below.refl _ _).alloc (Nat.le_refl _) _;have HPp:Hid (zeA (w.alloc (.cells (zaE x y s) 28)) w.heap.size x y s):=zf w _;replace HP:=zH<|HP.out.below hbl
 have HB1:=zH hbl;obtain⟨Bp,hBp⟩:∃Bp,w.heap.size=Bp:=⟨_,rfl⟩;generalize w.alloc (.cells (zaE x y s) 28)=w0 at *;rw[hBp] at HPp;have HBp:=zH hBp;simp only[hBp];clear hbl hBp;go_loopw[3] (λi w'=>∃k:Nat,k<=22/\i=.int .i64 ((k:Int)-1)/\OAt w' O x y s/\zeA w' Bp x y s/\Below w.heap.size w w') (λi _=>22-(intOf i+1).toNat)
 case atStart=>exact⟨0,by omega,rfl,HP.out,HPp.out,HB1.out⟩
 case round=>
  obtain⟨k,hk,rfl,hP,hPp,hB⟩:=hrel;clear HP HPp HB1;have HP:=zH hP;have HPp:=zH hPp;have HB1:=zH hB;clear hP hPp hB;by_cases hlt:k<=21
  ·have hlt':(k:Int)-1<=20:=by omega
   have wk:IntKind.i64.wrap ((k:Int)-1+1)=k:=by rw[zm _ (by omega) (by omega)];omega
   go_wp2_with fail;go_loopw[4] (λi w'=>∃j:Nat,j<=42/\i=.int .i64 ((j:Int)-1)/\OAt w' O x y s/\zeA w' Bp x y s/\Below w.heap.size w w') (λi _=>42-(intOf i+1).toNat)
   case atStart=>exact⟨0,by omega,rfl,HP.out,HPp.out,HB1.out⟩
   case round=>
    obtain⟨j,hkj,rfl,hP,hPp,hB⟩:=hrel;clear HP HPp HB1;have HP:=zH hP;have HPp:=zH hPp;have HB1:=zH hB;clear hP hPp hB;by_cases hltj:j<=41
    ·have hltj':(j:Int)-1<=40:=by omega
     obtain⟨q0,q1,q2⟩:=HPp.out.cells;obtain⟨c,er,hx,hy⟩:=HcB.out ((j:Int)-1) ((k:Int)-1);have Hx:=zH hx;have Hy:=zH hy;clear hx hy;go_wp2_with fail;clear q0 q1 q2;go_at_call 11;refine(Hx.out _ HP.out).mono ?_;rintro e w3 ⟨rfl,b3⟩;replace HP:=zH<|HP.out.below b3
     replace HPp:=zH<|HPp.out.below b3
     replace HB1:=zH<|HB1.out.trans (b3.mono HB1.out.size)
     clear b3;obtain⟨q0,q1,q2⟩:=HPp.out.cells;have lq:=HPp.out.lt;go_wp2_with fail;generalize hw4:w3.alloc _=w4;have b4:Below w3.heap.size w3 w4:=by rw[←hw4];exact(Below.refl _ _).alloc (Nat.le_refl _) _
     have A4:zv w4 w3.heap.size 0 c:=by rw[←hw4];exact zcq w3 c _ rfl _
     replace HP:=zH<|HP.out.below b4
     replace HPp:=zH<|HPp.out.below b4
     replace HB1:=zH<|HB1.out.trans (b4.mono HB1.out.size)
     have l4:=A4.lt;generalize w3.heap.size=Bc at *;clear b4 hw4 q0 q1 q2 lq;go_at_call 39;refine(Hy.out _ HP.out).mono ?_;rintro e w5 ⟨rfl,b5⟩;replace HP:=zH<|HP.out.below b5
     replace HPp:=zH<|HPp.out.below b5
     replace HB1:=zH<|HB1.out.trans (b5.mono HB1.out.size)
     obtain⟨a0,a1,a2,a3,a4,a5,a6⟩:=A4.below b5 l4;simp only[Nat.zero_add] at a1 a2 a3 a4 a5 a6;replace l4:=Nat.lt_of_lt_of_le l4 b5.size;clear b5 A4;go_wp2_with fail;exact⟨⟨j+1,by omega,by simp,HP.out.below ((Below.refl _ _).alloc (Nat.le_refl _) _),HPp.out.below ((Below.refl _ _).alloc (Nat.le_refl _) _),HB1.out.trans (((Below.refl _ _).alloc (Nat.le_refl _) _).mono HB1.out.size)⟩,by simp only[intOf];omega⟩
    ·have hltj':¬(j:Int)-1<=40:=by omega
     go_wp2_with fail;exact⟨⟨k+1,by omega,by simp,HP.out,HPp.out,HB1.out⟩,by simp only[intOf];omega⟩
  ·have hlt':¬(k:Int)-1<=20:=by omega
   go_wp2_with fail;go_ret;exact⟨rfl,HB1.out⟩
end
theorem zst {w:World} {O:Option Dv} {x y s:Option Addr} (h:OAt w O x y s) (on A B C E F:Int) (tx:ByteArray) (p:Pn):
 Calls Tryz.prog 10 #[.agg (zaE x y s),Ca.agg ⟨12,on,A,B,C,E,F,tx,p⟩] w λe w'=>e=.returned (.bool true)/\Below w.heap.size w w':=by
 have HP:=zH h;obtain⟨c,er,hx,hy⟩:=ztK h A B;have Hx:=zH hx;have Hy:=zH hy;clear h hx hy;go_in;go_wp2_with fail;generalize hwA:World.alloc (w.alloc _) _=wA;obtain⟨Hba,Hd,Hc⟩:=zkS (o:=⟨_,on,A,B,C,E,F,tx,p⟩) hwA;replace HP:=zH (HP.out.below Hba.out);clear hwA;go_at_call 11;refine(Hx.out wA HP.out).mono ?_;rintro e w3 ⟨rfl,b3⟩;replace HP:=zH<|HP.out.below b3
 replace Hd:=zH<|Hd.out.below b3
 replace Hc:=zH<|Hc.out.below b3
 replace Hba:=zH<|Hba.out.trans (b3.mono Hba.out.size)
 obtain⟨d0,d1,d2⟩:=Hd.out.cells;obtain⟨c0,c1,c2,c3,c4,c5,c6,c7,c8,c9,c10,c11,c12⟩:=Hc.out.cells;have l1:=Hd.out.lt;have l2:=Hc.out.lt;clear b3;go_wp2_with fail;generalize hw4:w3.alloc _=w4;have b4:Below w3.heap.size w3 w4:=by rw[←hw4];exact(Below.refl _ _).alloc (Nat.le_refl _) _
 have A4:zv w4 w3.heap.size 0 c:=by rw[←hw4];exact zcq w3 c _ rfl _
 replace HP:=zH<|HP.out.below b4
 replace Hba:=zH<|Hba.out.trans (b4.mono Hba.out.size)
 have l4:=A4.lt;generalize w3.heap.size=Bc at *;clear b4 hw4 d0 d1 d2 c0 c1 c2 c3 c4 c5 c6 c7 c8 c9 c10 c11 c12 l1 l2;go_at_call 39;refine(Hy.out _ HP.out).mono ?_;rintro e w5 ⟨rfl,b5⟩;replace Hba:=zH<|Hba.out.trans (b5.mono Hba.out.size)
 obtain⟨a0,a1,a2,a3,a4,a5,a6⟩:=A4.below b5 l4;simp only[Nat.zero_add] at a1 a2 a3 a4 a5 a6;replace l4:=Nat.lt_of_lt_of_le l4 b5.size;clear b5 A4;go_wp2_with fail;go_ret;exact⟨rfl,Hba.out.trans (((Below.refl _ _).alloc (Nat.le_refl _) _).mono Hba.out.size)⟩
end
section
set_option maxRecDepth 100000
open Go.RowKit
def zcG (O:Option Dv):Int:=match O with
 |none=>0
 |some D=>D.last
def zxd (w:World) (O:Option Dv) (x y s:Option Addr) (e:Ending) (w':World):Prop:=
 ∃O',e=.returned (.bool true)/\OAt w' O' x y s/\zd (zdr O) w w'/\(∀i,zdr O' i->zdr O i\/w.heap.size<=i)/\zcG O'<=zcG O+1
theorem zb0.nil {fx fy:Nat} {a:Option Addr->Array Value} {r:Value} (hx:∀w,Calls Tryz.prog fx (a none) w λe w'=>e=.returned r/\Below w.heap.size w w') (hy:∀w,Calls Tryz.prog fy (a none) w λe w'=>e=.returned r/\Below w.heap.size w w') (wA:World):
 zb0 fx fy a none none wA r (λ_=>False) (λw2=>Below wA.heap.size wA w2):=by
 refine(hx wA).mono ?_;rintro e w1 ⟨rfl,b1⟩;refine⟨rfl,zd.below _ b1,?_⟩;refine(hy w1).mono ?_;rintro e w2 ⟨rfl,b2⟩;have b:=b1.trans (b2.mono b1.size);exact⟨rfl,zd.below _ b,b⟩
end
end Go.Proofs.YtjlfibhbfdckpaaGreatDoor
