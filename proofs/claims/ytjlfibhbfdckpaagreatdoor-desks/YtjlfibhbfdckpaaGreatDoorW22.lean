import Derived.Test.YtjlfibhbfdckpaaGreatDoorW21
namespace Go.Proofs.YtjlfibhbfdckpaaGreatDoor
set_option maxHeartbeats 64000000
set_option maxRecDepth 100000
section
open Go.RowKit
open Wd (wd)
attribute [local go_sem ↓] Go.wp_at_zero Go.wp_at_succ
theorem zsr (n b0 b1 b2 b3:Nat) (h0:b0<256):(zdq n b0 b1 b2 b3).1<=2097151:=by
 unfold zdq
 repeat' split
 all_goals (dsimp only;omega)
theorem zor (s:ByteArray):∀(f pos:Nat),∀r∈Zh s f pos,0<=r/\r<=2097151:=by
 intro f;induction f with
 |zero=>intro pos r hr;simp[Zh] at hr
 |succ f ih=>
  intro pos r hr;unfold Zh at hr;split at hr
  ·rcases List.mem_cons.1 hr with e|hr
   ·split at e
    ·omega
    ·have:=zsr (s.size-pos) (s.get! pos).toNat (s.get! (pos+1)).toNat (s.get! (pos+2)).toNat (s.get! (pos+3)).toNat (s.get! pos).toNat_lt;rw[zgH] at e;omega
   ·exact ih _ r hr
  ·simp at hr
section
variable {R:Rm} {L:List Wn} {last:Int}
theorem zss (ok:ZK L last) (w:World) (h:Zq w R L last) (v:Wn) (j:Nat) (hj:L[j]?=some v) (hne:∀i u,i<j->L[i]?=some u->u.n≠v.n) (x y:Int) (hpl:Zt x y=true) (b:ByteArray) (hb:b.size<=200) (p:Pn) (hpn:zdA p=true):
 Calls Tryz.prog 32 #[.pointer (some ⟨R.d,0,none⟩),.int .i64 v.n,.int .i64 x,.int .i64 y,.string b,p.agg] w (Zr R L (zY L v.n (λu=>{u with G:=writeAll v.W v.H y p x (Zh b b.size 0) v.G})) last w (.int .i64 0)):=by
 have hrle:=zor b b.size 0;have hrok:=ziN b b.size 0;obtain⟨rl,hrl⟩:∃rl,Zh b b.size 0=rl:=⟨_,rfl⟩;rw[hrl] at hrle hrok ⊢;have Hrl:=zH hrl;have Hle:=zH hrle;have Hrk:=zH hrok;clear hrle hrok hrl;have hv:=List.mem_of_getElem? hj;have hb1:Below w.heap.size w (w.alloc (.cells #[.int .i64 p.f,.int .i64 p.b,.bool p.bo,.bool p.un,.bool p.re] 33)):=(Below.refl _ _).alloc (Nat.le_refl _) _;have HRa:=zH<|h.below hb1
 have P1:=ZO w p 33;have H:=zH<|zbq ok _ HRa.out v j hj hne
 obtain⟨p0,p1,p2,p3,p4⟩:=id P1;have hx:=zbH.1 hpl;have hjl:=(List.getElem?_eq_some_iff.1 hj).1;have hjl':(j:Int)<(L.length:Int):=by omega
 have hj1:¬(j:Int)<0:=by omega
 have lg:=h.lt (zfm R hv);have hb':¬(200:Int)<(b.size:Int):=by omega
 have Hj:=zH hj;clear h hj hne;go_in;go_wp2_with (first|(go_at_call 79;refine sM H.out ?_)|(go_at_call 80;refine sM (zbk _ _ _) ?_));go_at_call 81;refine(znn p _).mono ?_;rw[hpn];rintro e wb ⟨rfl,hbb⟩;have HRb:=zH<|HRa.out.below hbb
 have P2:=P1.same (hbb.block _ P1.lt);have K2:=zH<|hb1.trans (hbb.mono hb1.size)
 clear p0 p1 p2 p3 p4 P1 hbb HRa hb1 H;go_wp2_with fail;go_at_call 82;refine(zoq b _ hb).mono ?_;rw[Hrl.out];rintro e wc ⟨lv,rfl,hrow,hr2,hbc⟩;have HRc:=zH<|HRb.out.below hbc
 have P3:=P2.same (hbc.block _ P2.lt);have K3:=zH<|K2.out.trans (hbc.mono K2.out.size)
 have Hrow:=zH hrow;have lgb:=HRb.out.lt (zfm R hv);have hlen:∃a cap,lv=.slice a rl.length cap:=by
  rcases hrow.2 with⟨e,e2⟩|⟨g,cap,cur,e,_⟩
  ·exact⟨none,0,by rw[e,e2]⟩
  ·exact⟨_,cap,e⟩
 obtain⟨la,lcap,rfl⟩:=hlen;clear hrow hbc P2 K2 HRb;obtain⟨g,cap,hl,hw,hfz,_⟩:=HRc.out.sl ok.one;have d0:=HRc.out.d0;rw[hl] at d0;obtain⟨c0,c1,c2,c3,c4,c5⟩:=hw j v Hj.out;have ngd:=HRc.out.ne (p:=.top 0) (q:=.win v.n 1) (show 0<2 by omega) ⟨by omega,v,hv,rfl⟩ rfl rfl (by simp);have ngg:g≠R.g v.n:=HRc.out.ne (p:=.top 1) (q:=.win v.n 1) (show 1<2 by omega) ⟨by omega,v,hv,rfl⟩ (by show R.l.ownBlock=_;rw[hl];rfl) rfl (by simp);have ldd:=HRc.out.lt (zbp R L);have ldg:g<wc.heap.size:=HRc.out.lt (zc1 R L (by rw[hl];rfl));clear hw hl c0 c1 c2 c3 c4;go_wp2_with fail;go_loopw[2,17] (λxv kv w'=>∃(k:Nat) (xx:Int) (G:Nat->Nat->zk),k<=rl.length/\xv=.int .i64 xx/\kv=.int .i64 k/\-1000<=xx/\xx<=1000+2*k/\Wf v.W v.H G/\writeAll v.W v.H y p xx (rl.drop k) G=writeAll v.W v.H y p x rl v.G/\Zp w' (R.c v.n) (R.g v.n) (R.cap v.n) v.W v.H (v.H*v.W) G/\zd (λi=>i=R.g v.n) wc w') (λ_ kv _=>300-(intOf kv).toNat)
 case atStart=>exact⟨0,x,v.G,by omega,rfl,rfl,by omega,by omega,HRc.out.wf v hv,rfl,HRc.out.win v hv,zd.refl _ _⟩
 case round=>
  obtain⟨k,xx,G,hk,rfl,rfl,hx0,hx1,hwf,hwa,hC,hK⟩:=hrel;have HC:=zH hC;have HK:=zH hK;have Hwf:=zH hwf;have Hwa:=zH hwa;clear hwa hwf hC;by_cases hlt:k<rl.length
  ·have hlt':(k:Int)<(rl.length:Int):=by omega
   obtain⟨r,hr⟩:∃r,rl[k]?=some r:=⟨_,List.getElem?_eq_getElem hlt⟩;obtain⟨r0,r1⟩:=Hle.out r (List.mem_of_getElem? hr);have hwr:=Hrk.out r (List.mem_of_getElem? hr);have hdr:rl.drop k=r::rl.drop (k+1):=by rw[List.drop_eq_getElem_cons hlt];congr 1;rw[List.getElem?_eq_getElem hlt] at hr;injection hr
   obtain⟨lg2,lc2,e2⟩:=zam Hrow.out (by omega);obtain⟨rfl,rfl⟩:la=some ⟨lg2,0,none⟩/\lcap=lc2:=by simpa using e2
   have hlg:=(Hrow.out.lt lg2 rfl);have rc0:=zop Hrow.out k r hr;have nlg:lg2≠R.g v.n:=by omega
   have rc:=(Zj (hK.block _ hlg.2 nlg) k).trans rc0;have d0r:wr.cell? ⟨R.d,0,none⟩=_:=(Zj (hK.block _ ldd ngd) 0).trans d0;have c5r:wr.cell? ⟨g,j*6+5,none⟩=_:=(Zj (hK.block _ ldg ngg) (j*6+5)).trans c5;have Pr:=P3.same (hK.block _ P3.lt (by omega));obtain⟨p0,p1,p2,p3,p4⟩:=id Pr;simp only[Nat.zero_add] at p1 p2 p3 p4;have HPr:=zH Pr;have lz:=hK.size;have Hz:Hid (R.d<wr.heap.size/\g<wr.heap.size/\lg2<wr.heap.size/\w.heap.size<wr.heap.size/\w.heap.size≠R.g v.n):=⟨by omega,by omega,by omega,Pr.lt,by omega⟩;have HCd:Hid (Zp wr.drew (R.c v.n) (R.g v.n) (R.cap v.n) v.W v.H (v.H*v.W) G):=HC.out.same rfl rfl;have Hwa2:Hid (writeAll v.W v.H y p (xx+wd r) (rl.drop (k+1)) (zR v.W v.H G xx y r p)=writeAll v.W v.H y p x rl v.G):=by
    have:=Hwa.out;rw[hdr] at this;exact this
   have hw2:wd r<=2:=by omega
   have hw1:1<=wd r:=by omega
   have sxx:IntKind.i64.wrap (xx+wd r)=xx+wd r:=zm _ (by omega) (by omega);have Hwr:=zH hwr;clear hr rc0 hK e2 hdr Pr lz hwr;go_wp2_with fail;go_region_held3 (λw'=>w'.cell? ⟨R.d,0,none⟩=some (.slice (some ⟨g,0,none⟩) L.length cap)/\w'.cell? ⟨g,j*6+5,none⟩=some (.pointer (some ⟨R.c v.n,0,none⟩))/\w'.cell? ⟨lg2,k,none⟩=some (.int .i32 r)/\w'.cell? ⟨w.heap.size,0,none⟩=some (.int .i64 p.f)/\w'.cell? ⟨w.heap.size,1,none⟩=some (.int .i64 p.b)/\w'.cell? ⟨w.heap.size,2,none⟩=some (.bool p.bo)/\w'.cell? ⟨w.heap.size,3,none⟩=some (.bool p.un)/\w'.cell? ⟨w.heap.size,4,none⟩=some (.bool p.re)) (simp[*]) (first|(go_at_call 83;refine(zkn (R.c v.n) (R.g v.n) (R.cap v.n) v.W v.H _ G xx y r p _ HCd.out Hwf.out (by omega) (by omega) (by omega) (by omega)).mono ?_;rintro e w6 ⟨rfl,C6,K6⟩;have HC6:=zH<|C6;have HK6:Hid (zd (λi=>i=R.g v.n) wr w6):=⟨K6.os,K6.tape,K6.output,K6.size,K6.block⟩;have t1:=(Zj (HK6.out.block _ Hz.out.1 ngd) 0).trans d0r;have t2:=(Zj (HK6.out.block _ Hz.out.2.1 ngg) (j*6+5)).trans c5r;have t3:=(Zj (HK6.out.block _ Hz.out.2.2.1 nlg) k).trans rc;obtain⟨u0,u1,u2,u3,u4⟩:=HPr.out.same (HK6.out.block _ Hz.out.2.2.2.1 Hz.out.2.2.2.2);simp only[Nat.zero_add] at u1 u2 u3 u4;clear C6 K6));clear d0r c5r rc p0 p1 p2 p3 p4 t1 t2 u0 u1 u2 u3 u4;go_wp2_with fail;clear t3;go_at_call 65;refine(Wd.refWidth r _ (by omega) (by omega)).mono ?_;rintro e w7 ⟨rfl,b7⟩;have HC7:=zH<|HC6.out.below b7
   have HK7:=zH<|(HK.out.trans HK6.out (λ_ _ h=>h)).trans (zd.below _ b7) (λ_ _ h=>h)
   clear b7 HC6 HK6;go_wp2_with fail;go_roundw
   case rel=>exact⟨k+1,xx+wd r,zR v.W v.H G xx y r p,by omega,rfl,by simp,by omega,by omega,Hwf.out.write xx y r p Hwr.out,Hwa2.out,HC7.out,HK7.out⟩
   case measure=>simp[intOf];omega
  ·have hlt':¬(k:Int)<(rl.length:Int):=by omega
   have HP:Hid (Zr R L (zY L v.n (λu=>{u with G:=writeAll v.W v.H y p x rl v.G})) last w (.int .i64 0) (.returned (.int .i64 0)) wr):=by
    have e0:writeAll v.W v.H y p x rl v.G=G:=by rw[←Hwa.out,List.drop_eq_nil_of_le (by omega)];rfl
    rw[e0];obtain⟨R',e1,D1,t1,k1,o1⟩:=HRc.out.setG ok hv v.W v.H (R.g v.n) (R.cap v.n) G Hwf.out HC.out (HK.out.mono (λi e=>.inr e)) (.inl rfl) (.int .i64 0);rw[zjN ok hv] at D1 o1;exact⟨R',e1,D1,t1,(zd.below _ K3.out).trans k1 (λ_ _ h=>h),λi hi=>(o1 i hi).imp id (λh=>by have:=K3.out.size;omega)⟩
   go_wp2_with fail;go_ret;exact HP.out
end
end
section
open Go.RowKit
attribute [local go_sem ↓] Go.wp_at_zero Go.wp_at_succ
theorem zd5 (w:World) (q:Obj) (n:Nat) (h:n=w.heap.size):(w.alloc q).heap[n]?=some q:=by subst h;exact zf w q
def VAt (w:World) (b:Nat) (v:Wn) (c:Nat):Prop:=w.heap[b]?=some (.cells (zdF v c) 107)
theorem VAt.lt {w:World} {b:Nat} {v:Wn} {c:Nat} (h:VAt w b v c):b<w.heap.size:=(Array.getElem?_eq_some_iff.1 h).1
theorem VAt.cells {w:World} {b:Nat} {v:Wn} {c:Nat} (h:VAt w b v c):w.cell? ⟨b,0,none⟩=some (.int .i64 v.n)/\w.cell? ⟨b,1,none⟩=some (.int .i64 v.par)/\w.cell? ⟨b,2,none⟩=some (.int .i64 v.x)/\w.cell? ⟨b,3,none⟩=some (.int .i64 v.y)/\w.cell? ⟨b,4,none⟩=some (.bool v.sh)/\w.cell? ⟨b,5,none⟩=some (.pointer (some ⟨c,0,none⟩)):=
 ⟨za h 0,za h 1,za h 2,za h 3,za h 4,za h 5⟩
structure NwL (w:World) (c:Int->Nat) (u:Value) (M:List Wn) (v:Wn) (w':World):Prop where
 row:w'.ownsRow (w.heap.size+1) 107 6 u M.length (ZE c M)
 cp:VAt w' w.heap.size v (c v.n)
 bel:Below w.heap.size w w'
theorem NwL.more {w w1 w2:World} {c:Int->Nat} {u:Value} {M:List Wn} {v a:Wn} {g cap:Nat} (h:NwL w c u M v w1) (q:Obj) (hr:w2.ownsRow (w.heap.size+1) 107 6 (.slice (some ⟨g,0,none⟩) (M.length+1) cap) (M.length+1) (ZE c (M ++ [a]))) (hg:(w1.alloc q).grownBy w2 u.ownBlock):NwL w c (.slice (some ⟨g,0,none⟩) (M.length+1) cap) (M ++ [a]) v w2:=by
 have hl:=h.cp.lt;refine⟨by rw[List.length_append];exact hr,?_,?_⟩
 ·show _=_;rw[hg.block _ (by rw[size_alloc];omega) (λe=>by have:=(h.row.lt _ e.symm).1;omega),Below.heap_alloc _ _ _ hl];exact h.cp
 ·exact(h.bel.alloc h.bel.size _).grown hg (by rw[size_alloc];have:=h.bel.size;omega) (λi hi=>by have:=(h.row.lt i hi).1;omega)
section
variable {R:Rm} {L:List Wn} {last:Int}
theorem zhM (h1:1<=L.length) (h16:L.length<=16) (w:World) (h:Zq w R L last) (v:Wn) (j:Nat) (hj:L[j]?=some v) (hne2:∀i u,i≠j->L[i]?=some u->u.n≠v.n) (hj0:j≠0):
 Calls Tryz.prog 100 #[.pointer (some ⟨R.d,0,none⟩),.int .i64 v.n,.bool true] w (Zr R L (zG L v.n ++ [v]) last w (.int .i64 0)):=by
 have HR:=zH h;have H:=zH<|zkN h1 h16 w h v j hj (λi u hi=>hne2 i u (by omega)) hj0
 have d0:=h.d0;obtain⟨g,cap,hl,hw,hfz,_⟩:=h.sl h1;rw[hl] at d0;have Hl:=zH hl;obtain⟨c0,c1,c2,c3,c4,c5⟩:=hw j v hj;obtain⟨r,hr⟩:∃r,L[0]?=some r:=⟨_,List.getElem?_eq_getElem (by omega)⟩;obtain⟨r0,r1,r2,r3,r4,r5⟩:=hw 0 r hr;rw[Nat.zero_mul] at r0 r1 r2 r3 r4 r5;have hjl:=(List.getElem?_eq_some_iff.1 hj).1;have hjl':(j:Int)<(L.length:Int):=by omega
 have hjl0:(0:Int)<(L.length:Int):=by omega
 have hrn:=hne2 0 r (λe=>hj0 e.symm) hr;have h2B:=h.two _ (zbp R L);have hdl:=h.lt (zbp R L);have d0a:=Zb d0 (.cells (zdF v (R.c v.n)) 107);replace r0:=Zb r0 (.cells (zdF v (R.c v.n)) 107);replace r1:=Zb r1 (.cells (zdF v (R.c v.n)) 107);replace r2:=Zb r2 (.cells (zdF v (R.c v.n)) 107);replace r3:=Zb r3 (.cells (zdF v (R.c v.n)) 107);replace r4:=Zb r4 (.cells (zdF v (R.c v.n)) 107);replace r5:=Zb r5 (.cells (zdF v (R.c v.n)) 107);have HN0:Hid (NwL w R.c (.slice none 0 0) [] v (w.alloc (.cells (zdF v (R.c v.n)) 107))):=⟨World.ownsRow_nil _ _ _ _,zf w _,(Below.refl _ _).alloc (Nat.le_refl _) _⟩;have Hne2:=zH hne2;have Hj:=zH hj;have Hf1:Hid (Zx L v.n 1=[r]):=by
  show _=_;rw[zdk hr hrn];rfl
 clear h hw hl hj hne2 hr hrn;go_in;go_wp2_with (first|(go_at_call 143;refine sM H.out ?_)|(at_builtin;go_must (refine zar _ (by rfl) (.tmp 28) (.tmp 35) (by rfl) (w.heap.size+1) (.slice none 0 0) R.c ([]) r 0 rfl (by rfl) (World.ownsRow_nil _ _ _ _) (w.heap.size+1) (by rfl) (zd5 _ _ _ (by simp)) (by omega) (by simp only[size_alloc];omega) ?_);intro g7 cap7 w7 hr7 hg7 ho7 hl7;have HN1:Hid (NwL w R.c (.slice (some ⟨g7,0,none⟩) 1 cap7) [r] v w7):=HN0.out.more _ hr7 hg7;obtain⟨y0,y1,y2,y3,y4,y5⟩:=HN1.out.cp.cells;have z1:=HN1.out.bel.size;clear hr7 hg7 ho7 c0 c1 c2 c3 c4 c5 r0 r1 r2 r3 r4 r5 d0a d0));clear y0 y1 y2 y3 y4 y5 z1;go_wp2_with fail;go_loopw[10,11] (λu i w'=>∃k:Nat,1<=k/\k<=L.length/\i=.int .i64 k/\NwL w R.c u (Zx L v.n k) v w') (λ_ i _=>20-(intOf i).toNat)
 case atStart=>exact⟨1,by omega,h1,rfl,by rw[Hf1.out];exact HN1.out⟩
 case round=>
  obtain⟨k,hk1,hkl,rfl,hN⟩:=hrel;generalize u10=u at *;have HN:=zH hN;have hRr:=HR.out.below hN.bel;obtain⟨g',cap',hl',hw',_,_⟩:=hRr.sl h1;obtain⟨rfl,rfl⟩:g=g'/\cap=cap':=by have:=Hl.out.symm.trans hl';simpa using this
  have d0:=hRr.d0;rw[hl'] at d0;have zr:=hN.bel.size;have zc:=hN.cp.lt;by_cases hlt:k<L.length
  ·have hlt':(k:Int)<(L.length:Int):=by omega
   obtain⟨a,ha⟩:∃a,L[k]?=some a:=⟨_,List.getElem?_eq_getElem hlt⟩;by_cases hkj:k=j
   ·subst hkj;obtain rfl:a=v:=by have:=ha.symm.trans Hj.out;injection this
    have HN2:Hid (NwL w R.c u (Zx L a.n (k+1)) a wr):=by
     show NwL _ _ _ _ _ _;rw[zgE ha rfl];exact hN
    clear hN hRr hw' hl' ha;go_wp2_with fail;go_roundw
    case rel=>exact⟨k+1,by omega,by omega,by simp,HN2.out⟩
    case measure=>simp[intOf];omega
   ·have hkj':((k:Int)==(j:Int))=false:=by simp;omega
    have hkj2:¬(k:Int)=(j:Int):=by omega
    have Hfk:=zH<|zdk ha (Hne2.out k a hkj ha)
    have hfl:=zd1 L v.n k;obtain⟨c0,c1,c2,c3,c4,c5⟩:=hw' k a ha;have Hfn:Hid (1<=(Zx L v.n k).length):=by
     show 1<=_;have e:(Zx L v.n 1).length<=(Zx L v.n k).length:=by
      unfold Zx zG;exact((List.take_sublist_take_left hk1).filter _).length_le
     rw[Hf1.out] at e;exact e
    skip
    clear hN hRr hw' hl';go_wp2_with (first|(at_builtin;go_must (refine zar _ (by rfl) (.tmp 55) (.tmp 63) (by rfl) (w.heap.size+1) (u) R.c (Zx L v.n k) a _ rfl (by rfl) (zx HN.out.row (λi hi=>Below.heap_alloc _ _ _ (Zw HN.out.row hi).1)) wr.heap.size (by rfl) (zd5 _ _ _ (by simp)) (by omega) (by simp only[size_alloc];omega) ?_);intro g7 cap7 w7 hr7 hg7 ho7 hl7));have HN2:Hid (NwL w R.c (.slice (some ⟨g7,0,none⟩) ((Zx L v.n k).length+1) cap7) (Zx L v.n (k+1)) v w7):=by
     show NwL _ _ _ _ _ _;rw[Hfk.out];exact HN.out.more _ hr7 hg7
    clear hr7 hg7 ho7;go_wp2_with fail;go_roundw
    case rel=>exact⟨k+1,by omega,by omega,by simp,HN2.out⟩
    case measure=>simp[intOf];omega
  ·have hlt':¬(k:Int)<(L.length:Int):=by omega
   obtain rfl:k=L.length:=by omega
   have Hall:=zH<|zhz L v.n
   have hfl:=zd1 L v.n L.length;clear hRr hw' hl';obtain⟨y0,y1,y2,y3,y4,y5⟩:=hN.cp.cells;clear hN;go_wp2_with (first|(at_builtin;go_must (refine zar _ (by rfl) (.tmp 66) (.tmp 68) (by rfl) (w.heap.size+1) (u) R.c (Zx L v.n L.length) v _ rfl (by rfl) (zx HN.out.row (λi hi=>Below.heap_alloc _ _ _ (Zw HN.out.row hi).1)) wr.heap.size (by rfl) (zd5 _ _ _ (by simp)) (by omega) (by simp only[size_alloc];omega) ?_);intro g7 cap7 w7 hr7 hg7 ho7 hl7;have HN2:=zH<|HN.out.more _ hr7 hg7;have d0w:=(Zj (HN2.out.bel.block _ hdl) 0).trans HR.out.d0;have fzw:=ze ((HN2.out.bel.block _ hdl).trans HR.out.blk);clear hr7 hg7 ho7 y0 y1 y2 y3 y4 y5 d0));replace HN2:Hid (NwL w R.c (.slice (some ⟨g7,0,none⟩) ((Zx L v.n L.length).length+1) cap7) (zG L v.n ++ [v]) v w7):=by
    show NwL _ _ _ _ _ _;have:=HN2.out;rw[Hall.out] at this ⊢;exact this
   have HP:Hid (Zr R L (zG L v.n ++ [v]) last w (.int .i64 0) (.returned (.int .i64 0)) (w7.setCell ⟨R.d,0,none⟩ (.slice (some ⟨g7,0,none⟩) ((Zx L v.n L.length).length+1) cap7))):=by
    have hkk:zd (λi=>i=R.d) w (w7.setCell ⟨R.d,0,none⟩ (.slice (some ⟨g7,0,none⟩) ((Zx L v.n L.length).length+1) cap7)):=(zd.below (λi=>i=R.d) HN2.out.bel).setCell ⟨R.d,0,none⟩ _ (λ_=>rfl);have hbd:=(HN2.out.bel.block _ hdl).trans HR.out.blk;refine HR.out.relist (zG L v.n ++ [v]) (.slice (some ⟨g7,0,none⟩) ((Zx L v.n L.length).length+1) cap7) (λi hi=>by have:=(HN2.out.row.lt i hi).1;omega) (λu hu=>?_) (zg hbd 0 _) (zd3 (zx HN2.out.row (λi hi=>Below.heap_setCell _ _ _ _ (by have:=(HN2.out.row.lt i hi).1;show i≠R.d;omega))) (by omega)) hkk _;rcases List.mem_append.1 hu with hu|hu
    ·exact⟨u,(Za.1 hu).1,rfl,rfl,rfl,rfl⟩
    ·obtain rfl:u=v:=by simpa using hu
     exact⟨u,List.mem_of_getElem? Hj.out,rfl,rfl,rfl,rfl⟩
   go_ret;exact HP.out
theorem zkR (h1:1<=L.length) (h16:L.length<=16) (w:World) (h:Zq w R L last) (v:Wn) (j:Nat) (hj:L[j]?=some v) (hne2:∀i u,i≠j->L[i]?=some u->u.n≠v.n) (hj0:j≠0):
 Calls Tryz.prog 100 #[.pointer (some ⟨R.d,0,none⟩),.int .i64 v.n,.bool false] w (Zr R L (zdc v (zG L v.n)) last w (.int .i64 0)):=by
 have HR:=zH h;have H:=zH<|zkN h1 h16 w h v j hj (λi u hi=>hne2 i u (by omega)) hj0
 have d0:=h.d0;obtain⟨g,cap,hl,hw,hfz,_⟩:=h.sl h1;rw[hl] at d0;have Hl:=zH hl;obtain⟨c0,c1,c2,c3,c4,c5⟩:=hw j v hj;obtain⟨r,hr⟩:∃r,L[0]?=some r:=⟨_,List.getElem?_eq_getElem (by omega)⟩;obtain⟨r0,r1,r2,r3,r4,r5⟩:=hw 0 r hr;rw[Nat.zero_mul] at r0 r1 r2 r3 r4 r5;have hjl:=(List.getElem?_eq_some_iff.1 hj).1;have hjl':(j:Int)<(L.length:Int):=by omega
 have hjl0:(0:Int)<(L.length:Int):=by omega
 have hrn:=hne2 0 r (λe=>hj0 e.symm) hr;have h2B:=h.two _ (zbp R L);have hdl:=h.lt (zbp R L);have d0a:=Zb d0 (.cells (zdF v (R.c v.n)) 107);replace r0:=Zb r0 (.cells (zdF v (R.c v.n)) 107);replace r1:=Zb r1 (.cells (zdF v (R.c v.n)) 107);replace r2:=Zb r2 (.cells (zdF v (R.c v.n)) 107);replace r3:=Zb r3 (.cells (zdF v (R.c v.n)) 107);replace r4:=Zb r4 (.cells (zdF v (R.c v.n)) 107);replace r5:=Zb r5 (.cells (zdF v (R.c v.n)) 107);have HN0:Hid (NwL w R.c (.slice none 0 0) [] v (w.alloc (.cells (zdF v (R.c v.n)) 107))):=⟨World.ownsRow_nil _ _ _ _,zf w _,(Below.refl _ _).alloc (Nat.le_refl _) _⟩;have Hne2:=zH hne2;have Hj:=zH hj;have Hf1:Hid (Zx L v.n 1=[r]):=by
  show _=_;rw[zdk hr hrn];rfl
 clear h hw hl hj hne2 hr hrn;go_in;go_wp2_with (first|(go_at_call 143;refine sM H.out ?_)|(at_builtin;(refine zar _ (by rfl) (.tmp 39) (.tmp 41) (by rfl) (w.heap.size+1) (.slice (some ⟨g7,0,none⟩) 1 cap7) R.c ([r]) v 1 rfl (by rfl) (zx HN1.out.row (λi hi=>Below.heap_alloc _ _ _ (Zw HN1.out.row hi).1)) w7.heap.size (by rfl) (zd5 _ _ _ (by simp)) (by omega) (by simp only[size_alloc];omega) ?_);intro g8 cap8 w8 hr8 hg8 ho8 hl8)|(at_builtin;go_must (refine zar _ (by rfl) (.tmp 28) (.tmp 35) (by rfl) (w.heap.size+1) (.slice none 0 0) R.c ([]) r 0 rfl (by rfl) (World.ownsRow_nil _ _ _ _) (w.heap.size+1) (by rfl) (zd5 _ _ _ (by simp)) (by omega) (by simp only[size_alloc];omega) ?_);intro g7 cap7 w7 hr7 hg7 ho7 hl7;have HN1:Hid (NwL w R.c (.slice (some ⟨g7,0,none⟩) 1 cap7) [r] v w7):=HN0.out.more _ hr7 hg7;obtain⟨y0,y1,y2,y3,y4,y5⟩:=HN1.out.cp.cells;have z1:=HN1.out.bel.size;clear hr7 hg7 ho7 c0 c1 c2 c3 c4 c5 r0 r1 r2 r3 r4 r5 d0a d0));have HN2:Hid (NwL w R.c (.slice (some ⟨g8,0,none⟩) 2 cap8) [r,v] v w8):=HN1.out.more _ hr8 hg8;clear HN1 hr8 hg8 ho8 y0 y1 y2 y3 y4 y5 z1;go_wp2_with fail;go_loopw[10,11] (λu i w'=>∃k:Nat,1<=k/\k<=L.length/\i=.int .i64 k/\NwL w R.c u (zdc v (Zx L v.n k)) v w') (λ_ i _=>20-(intOf i).toNat)
 case atStart=>exact⟨1,by omega,h1,rfl,by rw[Hf1.out];exact HN2.out⟩
 case round=>
  obtain⟨k,hk1,hkl,rfl,hN⟩:=hrel;generalize u10=u at *;have HN:=zH hN;have hRr:=HR.out.below hN.bel;obtain⟨g',cap',hl',hw',_,_⟩:=hRr.sl h1;obtain⟨rfl,rfl⟩:g=g'/\cap=cap':=by have:=Hl.out.symm.trans hl';simpa using this
  have d0:=hRr.d0;rw[hl'] at d0;have zr:=hN.bel.size;have zc:=hN.cp.lt;by_cases hlt:k<L.length
  ·have hlt':(k:Int)<(L.length:Int):=by omega
   obtain⟨a,ha⟩:∃a,L[k]?=some a:=⟨_,List.getElem?_eq_getElem hlt⟩;by_cases hkj:k=j
   ·subst hkj;obtain rfl:a=v:=by have:=ha.symm.trans Hj.out;injection this
    have HN2:Hid (NwL w R.c u (zdc a (Zx L a.n (k+1))) a wr):=by
     show NwL _ _ _ _ _ _;rw[zgE ha rfl];exact hN
    clear hN hRr hw' hl' ha;go_wp2_with fail;go_roundw
    case rel=>exact⟨k+1,by omega,by omega,by simp,HN2.out⟩
    case measure=>simp[intOf];omega
   ·have hkj':((k:Int)==(j:Int))=false:=by simp;omega
    have hkj2:¬(k:Int)=(j:Int):=by omega
    have Hfk:=zH<|zdk ha (Hne2.out k a hkj ha)
    have hfl:=zd1 L v.n k;obtain⟨c0,c1,c2,c3,c4,c5⟩:=hw' k a ha;have Hfn:Hid (1<=(Zx L v.n k).length):=by
     show 1<=_;have e:(Zx L v.n 1).length<=(Zx L v.n k).length:=by
      unfold Zx zG;exact((List.take_sublist_take_left hk1).filter _).length_le
     rw[Hf1.out] at e;exact e
    have hfl2:(zdc v (Zx L v.n k)).length<=17:=by rw[zhy];omega
    clear hN hRr hw' hl';go_wp2_with (first|(at_builtin;go_must (refine zar _ (by rfl) (.tmp 55) (.tmp 63) (by rfl) (w.heap.size+1) (u) R.c (zdc v (Zx L v.n k)) a _ rfl (by rfl) (zx HN.out.row (λi hi=>Below.heap_alloc _ _ _ (Zw HN.out.row hi).1)) wr.heap.size (by rfl) (zd5 _ _ _ (by simp)) (by omega) (by simp only[size_alloc];omega) ?_);intro g7 cap7 w7 hr7 hg7 ho7 hl7));have HN2:Hid (NwL w R.c (.slice (some ⟨g7,0,none⟩) ((zdc v (Zx L v.n k)).length+1) cap7) (zdc v (Zx L v.n (k+1))) v w7):=by
     show NwL _ _ _ _ _ _;rw[Hfk.out,zn7 v a (λe=>by have:=Hfn.out;rw[e] at this;simp at this)];exact HN.out.more _ hr7 hg7
    clear hr7 hg7 ho7;go_wp2_with fail;go_roundw
    case rel=>exact⟨k+1,by omega,by omega,by simp,HN2.out⟩
    case measure=>simp[intOf];omega
  ·have hlt':¬(k:Int)<(L.length:Int):=by omega
   obtain rfl:k=L.length:=by omega
   have Hall:=zH<|zhz L v.n
   have hfl:=zd1 L v.n L.length;clear hRr hw' hl';have HN2:Hid (NwL w R.c u (zdc v (zG L v.n)) v wr):=by
    show NwL _ _ _ _ _ _;rw[←Hall.out];exact hN
   have fzw:=ze ((hN.bel.block _ hdl).trans HR.out.blk);clear hN HN;obtain⟨gu,cu,rfl⟩:=zam HN2.out.row (by rw[zhy];omega);have HP:Hid (Zr R L (zdc v (zG L v.n)) last w (.int .i64 0) (.returned (.int .i64 0)) (wr.setCell ⟨R.d,0,none⟩ (.slice (some ⟨gu,0,none⟩) (zdc v (zG L v.n)).length cu))):=by
    have hkk:zd (λi=>i=R.d) w (wr.setCell ⟨R.d,0,none⟩ (.slice (some ⟨gu,0,none⟩) (zdc v (zG L v.n)).length cu)):=(zd.below (λi=>i=R.d) HN2.out.bel).setCell ⟨R.d,0,none⟩ _ (λ_=>rfl);have hbd:=(HN2.out.bel.block _ hdl).trans HR.out.blk;refine HR.out.relist (zdc v (zG L v.n)) (.slice (some ⟨gu,0,none⟩) (zdc v (zG L v.n)).length cu) (λi hi=>by have:=(HN2.out.row.lt i hi).1;omega) (λu hu=>?_) (zg hbd 0 _) (zd3 (zx HN2.out.row (λi hi=>Below.heap_setCell _ _ _ _ (by have:=(HN2.out.row.lt i hi).1;show i≠R.d;omega))) (by omega)) hkk _;rcases zp6.1 hu with hu|hu
    ·exact⟨v,List.mem_of_getElem? Hj.out,by rw[hu],by rw[hu],by rw[hu],by rw[hu]⟩
    ·exact⟨u,(Za.1 hu).1,rfl,rfl,rfl,rfl⟩
   go_wp2_with fail;go_ret;exact HP.out
end
structure NwD (w:World) (c:Int->Nat) (u:Value) (M:List Wn) (w':World):Prop where
 row:w'.ownsRow w.heap.size 107 6 u M.length (ZE c M)
 bel:Below w.heap.size w w'
theorem NwD.more {w w1 w2:World} {c:Int->Nat} {u:Value} {M:List Wn} {a:Wn} {g cap:Nat} (h:NwD w c u M w1) (q:Obj) (hr:w2.ownsRow w.heap.size 107 6 (.slice (some ⟨g,0,none⟩) (M.length+1) cap) (M.length+1) (ZE c (M ++ [a]))) (hg:(w1.alloc q).grownBy w2 u.ownBlock):NwD w c (.slice (some ⟨g,0,none⟩) (M.length+1) cap) (M ++ [a]) w2:=
 ⟨by rw[List.length_append];exact hr,(h.bel.alloc h.bel.size _).grown hg (by rw[size_alloc];have:=h.bel.size;omega) (λi hi=>(h.row.lt i hi).1)⟩
theorem NwD.below {w w1 w2:World} {c:Int->Nat} {u:Value} {M:List Wn} (h:NwD w c u M w1) (b:Below w1.heap.size w1 w2):NwD w c u M w2:=
 ⟨zx h.row (λi hi=>b.block _ (h.row.lt i hi).2),h.bel.trans (b.mono h.bel.size)⟩
theorem zqm {L:List Wn} {rk:Int->Nat} {K:Nat} (T:ZR L rk K) {v:Wn} (hv:v∈L) (hv0:v.n≠0):¬Sub L v.n 0:=by
 intro hs;obtain⟨r,hr,h0,hp⟩:=T.rootIn;rw[←h0] at hs;have:=(zqf T.nd hr (by rw[h0];exact λe=>hv0 e.symm)).1 hs;rw[hp] at this;have:=(Sub.rank T (T.pos hv) this).2;omega
section
variable {R:Rm} {L:List Wn} {last:Int}
theorem zqn (ok:ZK L last) (w:World) (h:Zq w R L last) (v:Wn) (j:Nat) (hj:L[j]?=some v) (hne:∀i u,i<j->L[i]?=some u->u.n≠v.n) (hj0:j≠0):
 Calls Tryz.prog 97 #[.pointer (some ⟨R.d,0,none⟩),.int .i64 v.n] w (Zr R L (delL L v.n) last w (.int .i64 0)):=by
 have HR:=zH h;have H:=zH<|zeX ok w h v j hj hne hj0
 obtain⟨g,cap,hl,_,_,_⟩:=h.sl ok.one;have Hl:=zH hl;have h1:=ok.one;have h16:=ok.len;have h2B:=h.two _ (zbp R L);have hdl:=h.lt (zbp R L);obtain⟨rk,K,T⟩:=ok.tree;have hv:=List.mem_of_getElem? hj;have hv0:=T.pos hv;have hvn0:v.n≠0:=λe0=>by
  obtain⟨r,t,e,e1,_⟩:=T.head;exact hne 0 r (by omega) (by rw[e];rfl) (by omega)
 have Hd1:Hid (1<=(delL L v.n).length):=by
  show 1<=_;obtain⟨r,hr,hr0,_⟩:=T.rootIn;exact List.length_pos_of_mem (zbY.2 ⟨hr,by rw[hr0];exact zqm T hv hvn0⟩)
 clear h hl hj hne T;go_in;go_wp2_with (first|(go_at_call 143;refine sM H.out ?_));go_loopw[7,8] (λu i w'=>∃k:Nat,k<=L.length/\i=.int .i64 k/\NwD w R.c u (firstD L v.n k) w') (λ_ i _=>20-(intOf i).toNat)
 case atStart=>exact⟨0,by omega,rfl,⟨World.ownsRow_nil _ _ _ _,Below.refl _ _⟩⟩
 case round=>
  obtain⟨k,hkl,rfl,hN⟩:=hrel;generalize u7=u at *;have HN:=zH hN;have hRr:=HR.out.below hN.bel;have HRr:=zH hRr;obtain⟨g',cap',hl',hw',_,_⟩:=hRr.sl h1;obtain⟨rfl,rfl⟩:g=g'/\cap=cap':=by have:=Hl.out.symm.trans hl';simpa using this
  have d0:=hRr.d0;rw[hl'] at d0;by_cases hlt:k<L.length
  ·have hlt':(k:Int)<(L.length:Int):=by omega
   obtain⟨a,ha⟩:∃a,L[k]?=some a:=⟨_,List.getElem?_eq_getElem hlt⟩;have haL:=List.mem_of_getElem? ha;have Ha:=zH ha;obtain⟨c0,c1,c2,c3,c4,c5⟩:=hw' k a ha;have hfl:=zmb L v.n k;clear hN hRr hw' hl' ha;go_wp2_with fail;go_at_call 144;refine(zhB ok _ HRr.out a haL v.n hv0).mono ?_;rintro e w2 ⟨b,rfl,hb,b2⟩;have Hb:=zH hb;have hN2:=HN.out.below b2;have HN2:=zH hN2;have hR2:=HR.out.below hN2.bel;have z2:=hN2.bel.size;clear HN HRr b2 hb d0 c0 c1 c2 c3 c4 c5;obtain⟨g',cap',hl',hw',_,_⟩:=hR2.sl h1;obtain⟨rfl,rfl⟩:g=g'/\cap=cap':=by have:=Hl.out.symm.trans hl';simpa using this
   have d0:=hR2.d0;rw[hl'] at d0;obtain⟨c0,c1,c2,c3,c4,c5⟩:=hw' k a Ha.out;clear hN2 hR2 hw' hl';cases b with
   |true=>
    have HN3:Hid (NwD w R.c u (firstD L v.n (k+1)) w2):=by
     show NwD _ _ _ _ _;rw[zkD Ha.out (Hb.out.1 rfl)];exact HN2.out
    go_wp2_with fail;go_roundw
    case rel=>exact⟨k+1,by omega,by simp,HN3.out⟩
    case measure=>simp[intOf];omega
   |false=>
    have Hfk:=zH<|zkE Ha.out (λq=>by have:=Hb.out.2 q;simp at this)
    go_wp2_with (first|(at_builtin;go_must (refine zar _ (by rfl) (.tmp 41) (.tmp 49) (by rfl) w.heap.size u R.c (firstD L v.n k) a _ rfl (by rfl) (zx HN2.out.row (λi hi=>Below.heap_alloc _ _ _ (Zw HN2.out.row hi).1)) w2.heap.size (by rfl) (zd5 _ _ _ (by simp)) (by omega) (by simp only[size_alloc];omega) ?_);intro g7 cap7 w7 hr7 hg7 ho7 hl7));have HN3:Hid (NwD w R.c (.slice (some ⟨g7,0,none⟩) ((firstD L v.n k).length+1) cap7) (firstD L v.n (k+1)) w7):=by
     show NwD _ _ _ _ _;rw[Hfk.out];exact HN2.out.more _ hr7 hg7
    clear hr7 hg7 ho7;go_wp2_with fail;go_roundw
    case rel=>exact⟨k+1,by omega,by simp,HN3.out⟩
    case measure=>simp[intOf];omega
  ·have hlt':¬(k:Int)<(L.length:Int):=by omega
   obtain rfl:k=L.length:=by omega
   have HN2:Hid (NwD w R.c u (delL L v.n) wr):=by
    show NwD _ _ _ _ _;rw[←zma];exact hN
   have fzw:=ze ((hN.bel.block _ hdl).trans HR.out.blk);clear hN HN hRr HRr hw' hl';obtain⟨gu,cu,rfl⟩:=zam HN2.out.row Hd1.out;have HP:Hid (Zr R L (delL L v.n) last w (.int .i64 0) (.returned (.int .i64 0)) (wr.setCell ⟨R.d,0,none⟩ (.slice (some ⟨gu,0,none⟩) (delL L v.n).length cu))):=by
    have hkk:zd (λi=>i=R.d) w (wr.setCell ⟨R.d,0,none⟩ (.slice (some ⟨gu,0,none⟩) (delL L v.n).length cu)):=(zd.below (λi=>i=R.d) HN2.out.bel).setCell ⟨R.d,0,none⟩ _ (λ_=>rfl);have hbd:=(HN2.out.bel.block _ hdl).trans HR.out.blk;exact HR.out.relist (delL L v.n) (.slice (some ⟨gu,0,none⟩) (delL L v.n).length cu) (λi hi=>(HN2.out.row.lt i hi).1) (λu hu=>⟨u,(zbY.1 hu).1,rfl,rfl,rfl,rfl⟩) (zg hbd 0 _) (zd3 (zx HN2.out.row (λi hi=>Below.heap_setCell _ _ _ _ (by have:=(HN2.out.row.lt i hi).1;show i≠R.d;omega))) (by omega)) hkk _
   go_wp2_with fail;go_ret;exact HP.out
end
theorem zjQ {L:List Wn} (nd:(L.map Wn.n).Nodup) {i j:Nat} {a b:Wn} (hi:L[i]?=some a) (hj:L[j]?=some b) (h:a.n=b.n):i=j:=by
 have h1:=(List.getElem?_eq_some_iff.1 hi).1;have h2:=(List.getElem?_eq_some_iff.1 hj).1;have:=List.getElem_inj (i:=i) (j:=j) (h₀:=by simpa using h1) (h₁:=by simpa using h2) nd;exact this.1 (by rw[List.getElem_map,List.getElem_map,(List.getElem?_eq_some_iff.1 hi).2,(List.getElem?_eq_some_iff.1 hj).2,h])
theorem zos {p:Int}:∀ {L:List Wn} {j:Nat} {v:Wn},L[j]?=some v->zG (L.set j {v with par:=p}) v.n=zG L v.n:=by
 intro L;induction L with
 |nil=>intro j v h;simp at h
 |cons a t ih=>
  intro j v h;cases j with
  |zero=>
   obtain rfl:a=v:=by simpa using h
   simp[zG]
  |succ j=>
   have:=ih (j:=j) (v:=v) (by simpa using h);unfold zG at this ⊢;rw[List.set_cons_succ,List.filter_cons,List.filter_cons,this]
section
variable {R:Rm} {L:List Wn} {last:Int}
theorem zot (ok:ZK L last) (w:World) (h:Zq w R L last) (v:Wn) (j:Nat) (hj:L[j]?=some v) (_hne:∀i u,i<j->L[i]?=some u->u.n≠v.n) (hj0:j≠0):
 Calls Tryz.prog 100 #[.pointer (some ⟨R.d,0,none⟩),.int .i64 v.n,.bool true] w (Zr R L (zcy L v v.par) last w (.int .i64 0)):=by
 obtain⟨rk,K,T⟩:=ok.tree;exact zhM ok.one ok.len w h v j hj (λi u hi hu e=>hi (zjQ T.nd hu hj e)) hj0
theorem zmr (ok:ZK L last) (w:World) (h:Zq w R L last) (v:Wn) (j:Nat) (hj:L[j]?=some v) (_hne:∀i u,i<j->L[i]?=some u->u.n≠v.n) (hj0:j≠0):
 Calls Tryz.prog 100 #[.pointer (some ⟨R.d,0,none⟩),.int .i64 v.n,.bool false] w (Zr R L (zcK L v) last w (.int .i64 0)):=by
 obtain⟨rk,K,T⟩:=ok.tree;rw[ziR];exact zkR ok.one ok.len w h v j hj (λi u hi hu e=>hi (zjQ T.nd hu hj e)) hj0
theorem zms (ok:ZK L last) (w:World) (h:Zq w R L last) (v q:Wn) (j k:Nat) (hj:L[j]?=some v) (hne:∀i u,i<j->L[i]?=some u->u.n≠v.n) (hj0:j≠0) (hk:L[k]?=some q) (hnk:∀i u,i<k->L[i]?=some u->u.n≠q.n) (hs:Sub L v.n q.n):
 Calls Tryz.prog 102 #[.pointer (some ⟨R.d,0,none⟩),.int .i64 v.n,.int .i64 q.n] w λe w'=>e=.returned (.int .i64 5)/\Below w.heap.size w w':=by
 obtain⟨rk,K,T⟩:=ok.tree;have H1:=zH<|zbq ok w h v j hj hne
 have H2:=zH<|zbq ok w h q k hk hnk
 have HR:=zH h;have hq:=List.mem_of_getElem? hk;have hv0:=T.pos (List.mem_of_getElem? hj);have hj1:¬(j:Int)<0:=by omega
 have hj2:¬(j:Int)=0:=by omega
 have hk1:¬(k:Int)<0:=by omega
 have Hs:=zH hs;clear h hj hne hk hnk T hs;go_in;go_wp2_with fail;go_at_call 79;refine H1.out.mono ?_;rintro e w' ⟨rfl,hw'⟩;replace hw':=hw'.symm;subst hw';go_wp2_with (first|(go_at_call 79;refine sM H2.out ?_));go_at_call 144;refine(zhB ok _ HR.out q hq v.n hv0).mono ?_;rintro e w2 ⟨b,rfl,hb,b2⟩;obtain rfl:=hb.2 Hs.out;clear hb;go_wp2_with fail;go_ret;exact⟨rfl,b2⟩
theorem zuj (ok:ZK L last) (w:World) (h:Zq w R L last) (v q:Wn) (j k:Nat) (hj:L[j]?=some v) (hne:∀i u,i<j->L[i]?=some u->u.n≠v.n) (hj0:j≠0) (hk:L[k]?=some q) (hnk:∀i u,i<k->L[i]?=some u->u.n≠q.n) (hs:¬Sub L v.n q.n):
 Calls Tryz.prog 102 #[.pointer (some ⟨R.d,0,none⟩),.int .i64 v.n,.int .i64 q.n] w (Zr R L (zcy L v q.n) last w (.int .i64 0)):=by
 obtain⟨rk,K,T⟩:=ok.tree;have H1:=zH<|zbq ok w h v j hj hne
 have H2:=zH<|zbq ok w h q k hk hnk
 have HR:=zH h;have hq:=List.mem_of_getElem? hk;have hvL:=List.mem_of_getElem? hj;have hv0:=T.pos hvL;have hj1:¬(j:Int)<0:=by omega
 have hj2:¬(j:Int)=0:=by omega
 have hk1:¬(k:Int)<0:=by omega
 have Hs:=zH hs;have Hj:=zH hj;have Hnd:=zH T.nd;have hjl:=(List.getElem?_eq_some_iff.1 hj).1;have hjl':(j:Int)<(L.length:Int):=by omega
 clear h hj hne hk hnk T hs;go_in;go_wp2_with fail;go_at_call 79;refine H1.out.mono ?_;rintro e w' ⟨rfl,hw'⟩;replace hw':=hw'.symm;subst hw';go_wp2_with (first|(go_at_call 79;refine sM H2.out ?_));go_at_call 144;refine(zhB ok _ HR.out q hq v.n hv0).mono ?_;rintro e w2 ⟨b,rfl,hb,b2⟩;obtain rfl:b=false:=by cases b with|false=>rfl|true=>exact absurd (hb.1 rfl) Hs.out
 have HR2:=zH<|HR.out.below b2
 have HB2:=zH b2;obtain⟨g,cap,hl,hw,hfz,_⟩:=HR2.out.sl ok.one;have d0:=HR2.out.d0;rw[hl] at d0;obtain⟨c0,c1,c2,c3,c4,c5⟩:=hw j v Hj.out;have hr:=HR2.out.row;rw[hl] at hr;have HP1:Hid (Zr R L (zY L v.n (λu=>{u with par:=q.n})) last w2 (.int .i64 0) (.returned (.int .i64 0)) (w2.setCell ⟨g,j*6+1,none⟩ (.int .i64 q.n))):=
  HR2.out.setRow ok Hj.out hl (λu=>{u with par:=q.n}) (λ_=>rfl) (λ_=>⟨rfl,rfl,rfl⟩) (by rw[←zeY R.c L j 1 v _ (.int .i64 q.n) Hj.out (by omega) rfl];exact zg8 hr _ _) ((zd.refl _ _).setCell _ _ (λ_=>rfl)) _
 have Hul:Hid (zY L v.n (λu=>{u with par:=q.n})=L.set j {v with par:=q.n}):=zkI Hnd.out Hj.out _;clear hb b2 hw hl hr HR2;go_wp2_with fail;generalize w2.setCell ⟨g,j*6+1,none⟩ (.int .i64 q.n)=w3 at *;obtain⟨R',_,D1,t1,k1,o1⟩:=HP1.out;rw[Hul.out] at D1 o1;have hl1:1<=(L.set j {v with par:=q.n}).length:=by rw[List.length_set];exact ok.one
 have hl16:(L.set j {v with par:=q.n}).length<=16:=by rw[List.length_set];exact ok.len
 have hgj:(L.set j {v with par:=q.n})[j]?=some {v with par:=q.n}:=by rw[List.getElem?_set_self hjl]
 have hg2:∀i u,i≠j->(L.set j {v with par:=q.n})[i]?=some u->u.n≠v.n:=λi u hi hu e=>by
  rw[List.getElem?_set_ne (λq=>hi q.symm)] at hu;exact hi (zjQ Hnd.out hu Hj.out e)
 have hcall:=zhM (R:=R') hl1 hl16 w3 D1 {v with par:=q.n} j hgj hg2 hj0;rw[t1] at hcall;go_at_call 100;refine hcall.mono ?_;rintro e w4 ⟨R2,rfl,D2,t2,k2,o2⟩;have hfil:zG (L.set j {v with par:=q.n}) v.n=zG L v.n:=zos Hj.out;have HP:Hid (Zr R L (zcy L v q.n) last w (.int .i64 0) (.returned (.int .i64 0)) w4):=by
  refine⟨R2,rfl,?_,t2.trans t1,?_,?_⟩
  ·have:=D2;rw[hfil] at this;exact this
  ·refine((zd.below _ HB2.out).trans k1 (λ_ _ h=>h)).trans k2 (λi hi h=>?_);rcases o1 i h with e|e
   ·exact e
   ·have:=HB2.out.size;omega
  ·intro i hi;have hi':R2.own (zG (L.set j {v with par:=q.n}) v.n ++ [{v with par:=q.n}]) i:=by rw[hfil];exact hi
   have z1:=HB2.out.size;have z2:=k1.size;rcases o2 i hi' with e|e
   ·rcases o1 i e with e|e
    ·exact .inl e
    ·exact .inr (by omega)
   ·exact .inr (by omega)
 clear D2 k2 o2 hcall;go_wp2_with fail;go_ret;exact HP.out
end
end
section
open Go.RowKit
section
variable {L:List Wn} {last:Int}
theorem Calls.below {f:Nat} {a:Array Value} {w:World} {r:Value} (h:Calls Tryz.prog f a w λe w'=>e=.returned r/\w'=w):Calls Tryz.prog f a w λe w'=>e=.returned r/\Below w.heap.size w w' :=
 h.mono (by rintro e w' ⟨rfl,rfl⟩;exact⟨rfl,Below.refl _ _⟩)
theorem zdG (ok:ZK L last) {n:Int} (he:zU L n=0):∃v∈L,v.n=n/\v.n≠0/\v.par≠-1/\(∃o∈L,v.par=o.n/\v.n≠o.n)/\∃j:Nat,j≠0/\L[j]?=some v/\∀(i:Nat) (u:Wn),i<j->L[i]?=some u->u.n≠v.n:=by
 obtain⟨rk,K,T⟩:=ok.tree;unfold zU at he;rcases zgG ok n with⟨v,hv,rfl,j,hjl,hj,hne,_,h0⟩|hn
 ·have hh:=zaX.2 ⟨v,hv,rfl⟩;rw[if_neg (by simp[hh])] at he;have e0:v.n≠0:=λe=>by rw[if_pos e] at he;omega
  have hp:v.par≠-1:=λe=>e0 ((T.zero hv).2 e);have hp0:0<=v.par:=by rcases T.parNot hv with e|e<;>omega
  obtain⟨⟨o,ho,hon⟩,hr⟩:=T.up v hv hp0;refine⟨v,hv,rfl,e0,hp,⟨o,ho,hon.symm,λe=>?_⟩,j,λe=>e0 (h0.1 e),hj,hne⟩;rw[hon] at e;rw[e] at hr;omega
 ·rw[if_pos hn] at he;omega
theorem zhN (ok:ZK L last) {n:Int} (he:zch L n=true):∃v∈L,v.n=n/\∃j:Nat,L[j]?=some v/\∀(i:Nat) (u:Wn),i<j->L[i]?=some u->u.n≠v.n:=by
 rcases zgG ok n with⟨v,hv,rfl,j,hjl,hj,hne,_,h0⟩|hn
 ·exact⟨v,hv,rfl,j,hj,hne⟩
 ·rw[hn] at he;simp at he
end
end
end Go.Proofs.YtjlfibhbfdckpaaGreatDoor
