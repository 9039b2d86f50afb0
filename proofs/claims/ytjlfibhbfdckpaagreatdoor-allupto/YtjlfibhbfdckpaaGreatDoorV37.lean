import Derived.Test.YtjlfibhbfdckpaaGreatDoorV36
namespace Go.Proofs.YtjlfibhbfdckpaaGreatDoor
set_option maxHeartbeats 64000000
set_option maxRecDepth 100000
section
open Go.RowKit
attribute [local go_sem ↓] Go.wp_at_zero Go.wp_at_succ
section
variable {w w':World} {TB base n1 b:Nat} {own0:Option Nat} {ts:List (Option Nat)}
theorem zaU.same {was is:Bool} {on off:Int} (h:zaU w b was is on off) (h0:w'.heap[b]?=w.heap[b]?) (h1:w'.heap[b+1]?=w.heap[b+1]?) (h2:w'.heap[b+2]?=w.heap[b+2]?) (h3:w'.heap[b+3]?=w.heap[b+3]?):zaU w' b was is on off:=
 ⟨h0.trans h.w0,h1.trans h.w1,h2.trans h.w2,h3.trans h.w3⟩
theorem zaU.lt {was is:Bool} {on off:Int} (h:zaU w b was is on off):b+3<w.heap.size:=(Array.getElem?_eq_some_iff.1 h.w3).1
theorem zdo.lt {was is:Int} {first:Int} (h:zdo w b was is first):b+2<w.heap.size:=(Array.getElem?_eq_some_iff.1 h.w2).1
theorem zaU.below {was is:Bool} {on off:Int} (h:zaU w b was is on off) (hb:Below w.heap.size w w'):zaU w' b was is on off:=by
 have:=h.lt;exact h.same (hb.block _ (by omega)) (hb.block _ (by omega)) (hb.block _ (by omega)) (hb.block _ (by omega))
theorem zdo.below {was is:Int} {first:Int} (h:zdo w b was is first) (hb:Below w.heap.size w w'):zdo w' b was is first:=by
 have:=h.lt;exact⟨(hb.block _ (by omega)).trans h.w0,(hb.block _ (by omega)).trans h.w1,(hb.block _ (by omega)).trans h.w2⟩
end
structure zsP (w:World) (b1 b2 b3 b4 b5 g lo n1:Nat) (p q:Pn):Prop where
 f1:zaU w b1 p.bo q.bo 1 22
 f2:zaU w b2 p.un q.un 4 24
 f3:zaU w b3 p.re q.re 7 27
 c1:zdo w b4 p.f q.f 30
 c2:zdo w b5 p.b q.b 40
 row:w.heap[g]?=some (.cells #[zbx b1,zbx b2,zbx b3,zfr b4,zfr b5] 254)
 ins:lo<=b1/\b1+3<n1/\lo<=b2/\b2+3<n1/\lo<=b3/\b3+3<n1/\lo<=b4/\b4+2<n1/\lo<=b5/\b5+2<n1/\lo<=g/\g<n1
theorem zsP.keep {w w':World} {b1 b2 b3 b4 b5 g lo n1 TB:Nat} {own0:Option Nat} {p q:Pn} (h:zsP w b1 b2 b3 b4 b5 g lo n1 p q) (k:zi6 TB n1 own0 w w') (hTB:TB<lo) (ho:∀i,own0=some i->i<lo) (hn:n1<=w.heap.size):zsP w' b1 b2 b3 b4 b5 g lo n1 p q:=by
 have hlt:∀i,lo<=i->i<n1->w'.heap[i]?=w.heap[i]?:=λi h1 h2=>k.block i (by omega) (by
  rintro(e|e|e)
  ·omega
  ·have:=ho i e;omega
  ·omega)
 have hi:=h.ins;refine⟨h.f1.same (hlt _ (by omega) (by omega)) (hlt _ (by omega) (by omega)) (hlt _ (by omega) (by omega)) (hlt _ (by omega) (by omega)),h.f2.same (hlt _ (by omega) (by omega)) (hlt _ (by omega) (by omega)) (hlt _ (by omega) (by omega)) (hlt _ (by omega) (by omega)),h.f3.same (hlt _ (by omega) (by omega)) (hlt _ (by omega) (by omega)) (hlt _ (by omega) (by omega)) (hlt _ (by omega) (by omega)),⟨(hlt _ (by omega) (by omega)).trans h.c1.w0,(hlt _ (by omega) (by omega)).trans h.c1.w1,(hlt _ (by omega) (by omega)).trans h.c1.w2⟩,⟨(hlt _ (by omega) (by omega)).trans h.c2.w0,(hlt _ (by omega) (by omega)).trans h.c2.w1,(hlt _ (by omega) (by omega)).trans h.c2.w2⟩,(hlt _ (by omega) (by omega)).trans h.row,hi⟩
structure ZF (wB w:World) (b1 b2 b3 b4 b5 g lo n1 TB base:Nat) (own0:Option Nat) (p q:Pn) (ts:List (Option Nat)):Prop where
 ch:zsP w b1 b2 b3 b4 b5 g lo n1 p q
 told:zeJ w TB base n1 own0 ts
 kp:zi6 TB n1 own0 wB w
 hlo:TB<lo
 hown:∀i,own0=some i->i<lo
section
variable {wB w:World} {b1 b2 b3 b4 b5 g lo n1 TB base:Nat} {own0:Option Nat} {p q:Pn} {ts:List (Option Nat)}
theorem ZF.step (h:ZF wB w b1 b2 b3 b4 b5 g lo n1 TB base own0 p q ts) {ts':List (Option Nat)} {e:Ending} {w':World} (hp:zc8 TB base n1 own0 ts' w e w'):e=.returned (.tuple #[])/\ZF wB w' b1 b2 b3 b4 b5 g lo n1 TB base own0 p q ts':=by
 obtain⟨rfl,T,K⟩:=hp;exact⟨rfl,h.ch.keep K h.hlo h.hown h.told.hn,T,h.kp.trans K (λ_ _ q=>q),h.hlo,h.hown⟩
theorem ZF.row (h:ZF wB w b1 b2 b3 b4 b5 g lo n1 TB base own0 p q ts):w.cell? ⟨g,0,none⟩=some (zbx b1)/\w.cell? ⟨g,1,none⟩=some (zbx b2)/\w.cell? ⟨g,2,none⟩=some (zbx b3)/\w.cell? ⟨g,3,none⟩=some (zfr b4)/\w.cell? ⟨g,4,none⟩=some (zfr b5):=
 ⟨za h.ch.row 0,za h.ch.row 1,za h.ch.row 2,za h.ch.row 3,za h.ch.row 4⟩
theorem ZF.t1 (h:ZF wB w b1 b2 b3 b4 b5 g lo n1 TB base own0 p q ts) (hl:ts.length<8):
 Calls Tryz.prog 246 #[zmA TB,.pointer (some ⟨b1+1,0,none⟩),.pointer (some ⟨b1,0,none⟩),.pointer (some ⟨b1+2,0,none⟩),.pointer (some ⟨b1+3,0,none⟩)] w λe w'=>e=.returned (.tuple #[])/\ZF wB w' b1 b2 b3 b4 b5 g lo n1 TB base own0 p q (ts++ZV p.bo q.bo 1 22):=
 (zmB p.bo q.bo 1 22 b1 (b1+1) (b1+2) (b1+3) TB base n1 own0 ts w (by omega) (by omega) h.told hl (za h.ch.f1.w0 0) (za h.ch.f1.w1 0) (za h.ch.f1.w2 0) (za h.ch.f1.w3 0)).mono (λ_ _ hp=>h.step hp)
theorem ZF.t2 (h:ZF wB w b1 b2 b3 b4 b5 g lo n1 TB base own0 p q ts) (hl:ts.length<8):
 Calls Tryz.prog 246 #[zmA TB,.pointer (some ⟨b2+1,0,none⟩),.pointer (some ⟨b2,0,none⟩),.pointer (some ⟨b2+2,0,none⟩),.pointer (some ⟨b2+3,0,none⟩)] w λe w'=>e=.returned (.tuple #[])/\ZF wB w' b1 b2 b3 b4 b5 g lo n1 TB base own0 p q (ts++ZV p.un q.un 4 24):=
 (zmB p.un q.un 4 24 b2 (b2+1) (b2+2) (b2+3) TB base n1 own0 ts w (by omega) (by omega) h.told hl (za h.ch.f2.w0 0) (za h.ch.f2.w1 0) (za h.ch.f2.w2 0) (za h.ch.f2.w3 0)).mono (λ_ _ hp=>h.step hp)
theorem ZF.t3 (h:ZF wB w b1 b2 b3 b4 b5 g lo n1 TB base own0 p q ts) (hl:ts.length<8):
 Calls Tryz.prog 246 #[zmA TB,.pointer (some ⟨b3+1,0,none⟩),.pointer (some ⟨b3,0,none⟩),.pointer (some ⟨b3+2,0,none⟩),.pointer (some ⟨b3+3,0,none⟩)] w λe w'=>e=.returned (.tuple #[])/\ZF wB w' b1 b2 b3 b4 b5 g lo n1 TB base own0 p q (ts++ZV p.re q.re 7 27):=
 (zmB p.re q.re 7 27 b3 (b3+1) (b3+2) (b3+3) TB base n1 own0 ts w (by omega) (by omega) h.told hl (za h.ch.f3.w0 0) (za h.ch.f3.w1 0) (za h.ch.f3.w2 0) (za h.ch.f3.w3 0)).mono (λ_ _ hp=>h.step hp)
theorem ZF.t4 (h:ZF wB w b1 b2 b3 b4 b5 g lo n1 TB base own0 p q ts) (hq:q.Ok) (hl:ts.length<8):
 Calls Tryz.prog 247 #[zmA TB,.pointer (some ⟨b4+1,0,none⟩),.pointer (some ⟨b4,0,none⟩),.pointer (some ⟨b4+2,0,none⟩)] w λe w'=>e=.returned (.tuple #[])/\ZF wB w' b1 b2 b3 b4 b5 g lo n1 TB base own0 p q (ts++zbO p.f q.f 30):=
 (zla p.f q.f 30 b4 (b4+1) (b4+2) TB base n1 own0 ts w hq.1 hq.2.1 (by omega) (by omega) h.told hl (za h.ch.c1.w0 0) (za h.ch.c1.w1 0) (za h.ch.c1.w2 0)).mono (λ_ _ hp=>h.step hp)
theorem ZF.t5 (h:ZF wB w b1 b2 b3 b4 b5 g lo n1 TB base own0 p q ts) (hq:q.Ok) (hl:ts.length<8):
 Calls Tryz.prog 247 #[zmA TB,.pointer (some ⟨b5+1,0,none⟩),.pointer (some ⟨b5,0,none⟩),.pointer (some ⟨b5+2,0,none⟩)] w λe w'=>e=.returned (.tuple #[])/\ZF wB w' b1 b2 b3 b4 b5 g lo n1 TB base own0 p q (ts++zbO p.b q.b 40):=
 (zla p.b q.b 40 b5 (b5+1) (b5+2) TB base n1 own0 ts w hq.2.2.1 hq.2.2.2 (by omega) (by omega) h.told hl (za h.ch.c2.w0 0) (za h.ch.c2.w1 0) (za h.ch.c2.w2 0)).mono (λ_ _ hp=>h.step hp)
end
theorem zdL (w:World) (o:Obj) (b k:Nat) (h:b<w.heap.size):(w.alloc o).cell? ⟨b,k,none⟩=w.cell? ⟨b,k,none⟩:=World.cell?_of_block (zN w o h)
structure Acc (k:Nat) (wA w:World) (N:Nat) (p q:Pn):Prop where
 bel:Below wA.heap.size wA w
 sz:w.heap.size=N+3+(if k<=3 then 4*k else 12+3*(k-3))
 a1:1<=k->zaU w (N+3) p.bo q.bo 1 22
 a2:2<=k->zaU w (N+7) p.un q.un 4 24
 a3:3<=k->zaU w (N+11) p.re q.re 7 27
 a4:4<=k->zdo w (N+15) p.f q.f 30
 a5:5<=k->zdo w (N+18) p.b q.b 40
section
variable {wA w w':World} {N b:Nat} {p q:Pn}
theorem Acc.next {k:Nat} (h:Acc k wA w N p q) (hs:w.heap.size=b) (hz:w'.heap.size=b+(if k<3 then 4 else 3)) (hb:Below w.heap.size w w') (hk:k<=4)
 (n1:k=0->zaU w' b p.bo q.bo 1 22) (n2:k=1->zaU w' b p.un q.un 4 24) (n3:k=2->zaU w' b p.re q.re 7 27) (n4:k=3->zdo w' b p.f q.f 30) (n5:k=4->zdo w' b p.b q.b 40):Acc (k+1) wA w' N p q:=by
 have hsz:=h.sz;have hwz:=h.bel.size;refine⟨h.bel.trans (hb.mono hwz),?_,λ_=>?_,λq1=>?_,λq1=>?_,λq1=>?_,λq1=>?_⟩
 ·rw[hz,←hs,hsz];match k,hk with
  |0,_=>rfl
  |1,_=>rfl
  |2,_=>rfl
  |3,_=>rfl
  |4,_=>rfl
 ·by_cases e:k=0
  ·have:b=N+3:=by subst e;simp at hsz;omega
   rw[←this];exact n1 e
  ·exact(h.a1 (by omega)).below hb
 ·by_cases e:k=1
  ·have:b=N+7:=by subst e;simp at hsz;omega
   rw[←this];exact n2 e
  ·exact(h.a2 (by omega)).below hb
 ·by_cases e:k=2
  ·have:b=N+11:=by subst e;simp at hsz;omega
   rw[←this];exact n3 e
  ·exact(h.a3 (by omega)).below hb
 ·by_cases e:k=3
  ·have:b=N+15:=by subst e;simp at hsz;omega
   rw[←this];exact n4 e
  ·exact(h.a4 (by omega)).below hb
 ·by_cases e:k=4
  ·have:b=N+18:=by subst e;simp at hsz;omega
   rw[←this];exact n5 e
  ·exact(h.a5 (by omega)).below hb
theorem Acc.n0 (h:Acc 0 wA w N p q) (hs:w.heap.size=b) (hz:w'.heap.size=b+4) (hb:Below w.heap.size w w') (hF:zaU w' b p.bo q.bo 1 22):Acc 1 wA w' N p q:=
 h.next hs hz hb (by omega) (λ_=>hF) (λe=>by cases e) (λe=>by cases e) (λe=>by cases e) (λe=>by cases e)
theorem Acc.n1 (h:Acc 1 wA w N p q) (hs:w.heap.size=b) (hz:w'.heap.size=b+4) (hb:Below w.heap.size w w') (hF:zaU w' b p.un q.un 4 24):Acc 2 wA w' N p q:=
 h.next hs hz hb (by omega) (λe=>by cases e) (λ_=>hF) (λe=>by cases e) (λe=>by cases e) (λe=>by cases e)
theorem Acc.n2 (h:Acc 2 wA w N p q) (hs:w.heap.size=b) (hz:w'.heap.size=b+4) (hb:Below w.heap.size w w') (hF:zaU w' b p.re q.re 7 27):Acc 3 wA w' N p q:=
 h.next hs hz hb (by omega) (λe=>by cases e) (λe=>by cases e) (λ_=>hF) (λe=>by cases e) (λe=>by cases e)
theorem Acc.n3 (h:Acc 3 wA w N p q) (hs:w.heap.size=b) (hz:w'.heap.size=b+3) (hb:Below w.heap.size w w') (hF:zdo w' b p.f q.f 30):Acc 4 wA w' N p q:=
 h.next hs hz hb (by omega) (λe=>by cases e) (λe=>by cases e) (λe=>by cases e) (λ_=>hF) (λe=>by cases e)
theorem Acc.n4 (h:Acc 4 wA w N p q) (hs:w.heap.size=b) (hz:w'.heap.size=b+3) (hb:Below w.heap.size w w') (hF:zdo w' b p.b q.b 40):Acc 5 wA w' N p q:=
 h.next hs hz hb (by omega) (λe=>by cases e) (λe=>by cases e) (λe=>by cases e) (λe=>by cases e) (λ_=>hF)
end
theorem zlb (av:Option Addr) (cap:Nat) (p q:Pn) (ts:List (Option Nat)) (base:Nat) (w:World) (hq:q.Ok) (ht:zbN ts) (hl:ts.length<=1) (hrow:w.ownsRow base 9 1 (.slice av ts.length cap) ts.length (zdn ts)) (hbase:base<=w.heap.size):
 Calls Tryz.prog 217 #[.slice av ts.length cap,p.agg,q.agg] w λe w'=>∃v',e=.returned v'/\w'.ownsRow base 9 1 v' (ts++zbe p q).length (zdn (ts++zbe p q))/\Below base w w':=by
 have HR:=zH hrow;clear hrow;obtain⟨N,hN⟩:∃N,w.heap.size=N:=⟨_,rfl⟩;have HN:=zH hN;go_in;go_wp2_with fail;have hA:∃wA,(((w.alloc (.cells #[.slice av ts.length cap] 229)).alloc (.cells #[.int .i64 p.f,.int .i64 p.b,.bool p.bo,.bool p.un,.bool p.re] 33)).alloc (.cells #[.int .i64 q.f,.int .i64 q.b,.bool q.bo,.bool q.un,.bool q.re] 33))=wA/\wA.heap.size=N+3/\wA.heap[N]?=some (.cells #[.slice av ts.length cap] 229)/\Zf wA (N+1) 0 p/\Zf wA (N+2) 0 q/\Below w.heap.size w wA:=by
  subst hN;refine⟨_,rfl,by simp,?_,?_,?_,(((Below.refl _ _).alloc (Nat.le_refl _) _).alloc (by simp) _).alloc (by simp;omega) _⟩
  ·rw[zN _ _ (by simp;omega),zN _ _ (by simp),ZM _ _ rfl]
  ·have e:∀o,(((w.alloc (.cells #[.slice av ts.length cap] 229)).alloc (.cells #[.int .i64 p.f,.int .i64 p.b,.bool p.bo,.bool p.un,.bool p.re] 33)).alloc (.cells #[.int .i64 q.f,.int .i64 q.b,.bool q.bo,.bool q.un,.bool q.re] 33)).cell? ⟨w.heap.size+1,o,none⟩=(#[.int .i64 p.f,.int .i64 p.b,.bool p.bo,.bool p.un,.bool p.re]:Array Value)[o]?:=λo=>za (by rw[zN _ _ (by simp),ZM _ _ (by simp)]) o;exact⟨e 0,e 1,e 2,e 3,e 4⟩
  ·have e:∀o,(((w.alloc (.cells #[.slice av ts.length cap] 229)).alloc (.cells #[.int .i64 p.f,.int .i64 p.b,.bool p.bo,.bool p.un,.bool p.re] 33)).alloc (.cells #[.int .i64 q.f,.int .i64 q.b,.bool q.bo,.bool q.un,.bool q.re] 33)).cell? ⟨w.heap.size+2,o,none⟩=(#[.int .i64 q.f,.int .i64 q.b,.bool q.bo,.bool q.un,.bool q.re]:Array Value)[o]?:=λo=>za (ZM _ _ (by simp)) o;exact⟨e 0,e 1,e 2,e 3,e 4⟩
 obtain⟨wA,hwA,zA,bA,pA,qA,belA⟩:=hA;rw[hwA];have HbA:=zH bA;have HpA:Hid (Zf wA (N+1) 0 p/\Zf wA (N+2) 0 q):=⟨pA,qA⟩;have HbelA:=zH belA;obtain⟨p0,p1,p2,p3,p4⟩:=pA;obtain⟨q0,q1,q2,q3,q4⟩:=qA;clear hwA bA belA hN;have HC:Hid (Acc 0 wA wA.drew N p q):=⟨(Below.refl _ _).drew,zA,λe=>by omega,λe=>by omega,λe=>by omega,λe=>by omega,λe=>by omega⟩;go_region_held3 (λw'=>w'.cell? ⟨N+1,0,none⟩=some (.int .i64 p.f)/\w'.cell? ⟨N+1,1,none⟩=some (.int .i64 p.b)/\w'.cell? ⟨N+1,2,none⟩=some (.bool p.bo)/\w'.cell? ⟨N+1,3,none⟩=some (.bool p.un)/\w'.cell? ⟨N+1,4,none⟩=some (.bool p.re)/\w'.cell? ⟨N+2,0,none⟩=some (.int .i64 q.f)/\w'.cell? ⟨N+2,1,none⟩=some (.int .i64 q.b)/\w'.cell? ⟨N+2,2,none⟩=some (.bool q.bo)/\w'.cell? ⟨N+2,3,none⟩=some (.bool q.un)/\w'.cell? ⟨N+2,4,none⟩=some (.bool q.re)) (simp[*,zdL]) (first|(go_at_call 233;refine(zvM _ _ _ _ _).mono ?_;rintro e wf ⟨bf,rfl,hF,hs,hz,hb⟩;(first|(have HC':=HC.out.n0 hs hz hb hF;have e0:bf=N+3:=by {have:=HC.out.sz;simp at this hs;omega})|(have HC':=HC.out.n1 hs hz hb hF;have e0:bf=N+7:=by {have:=HC.out.sz;simp at this hs;omega})|(have HC':=HC.out.n2 hs hz hb hF;have e0:bf=N+11:=by {have:=HC.out.sz;simp at this hs;omega}));have e1:=HC'.bel.cells (b:=N+1) (by omega);have e2:=HC'.bel.cells (b:=N+2) (by omega);have ez:=HC'.sz;simp at ez;clear HC hF hs hz hb;have HC:Hid _:=HC';clear HC';subst e0)|(go_at_call 234;refine(zsO _ _ _ _).mono ?_;rintro e wf ⟨bf,rfl,hF,hs,hz,hb⟩;(first|(have HC':=HC.out.n3 hs hz hb hF;have e0:bf=N+15:=by {have:=HC.out.sz;simp at this hs;omega})|(have HC':=HC.out.n4 hs hz hb hF;have e0:bf=N+18:=by {have:=HC.out.sz;simp at this hs;omega}));have e1:=HC'.bel.cells (b:=N+1) (by omega);have e2:=HC'.bel.cells (b:=N+2) (by omega);have ez:=HC'.sz;simp at ez;clear HC hF hs hz hb;have HC:Hid _:=HC';clear HC';subst e0));have hTel:ZF (wf.alloc (.cells #[zbx (N+3),zbx (N+7),zbx (N+11),zfr (N+15),zfr (N+18)] 254)) (wf.alloc (.cells #[zbx (N+3),zbx (N+7),zbx (N+11),zfr (N+15),zfr (N+18)] 254)) (N+3) (N+7) (N+11) (N+15) (N+18) (N+3+18) (N+1) (N+22) N base (Value.slice av ts.length cap).ownBlock p q ts:=by
  have hA:=HC.out;have hbl:Below wf.heap.size wf (wf.alloc (.cells #[zbx (N+3),zbx (N+7),zbx (N+11),zfr (N+15),zfr (N+18)] 254)):=(Below.refl _ _).alloc (Nat.le_refl _) _;have hrl:=λi hi=>HR.out.lt i hi;have hNw:=HN.out;have hbN:=(HbelA.out.trans (hA.bel.mono (by omega))).trans (hbl.mono (by omega));refine⟨⟨(hA.a1 (by omega)).below hbl,(hA.a2 (by omega)).below hbl,(hA.a3 (by omega)).below hbl,(hA.a4 (by omega)).below hbl,(hA.a5 (by omega)).below hbl,ZM _ _ (by omega),by omega⟩,⟨⟨_,?_,ZH HR.out (λi hi=>hbN.block i (hrl i hi).2),.inl rfl,?_⟩,by simp;omega,by omega,by omega,by omega,ht⟩,zd.refl _ _,by omega,λi hi=>?_⟩
  ·rw[hbl.block N (by omega),hA.bel.block N (by omega)];exact HbA.out
  ·intro hi;have:=(hrl N hi).2;omega
  ·have:=(hrl i hi).2;omega
 have HTel:Hid (Below w.heap.size w (wf.alloc (.cells #[zbx (N+3),zbx (N+7),zbx (N+11),zfr (N+15),zfr (N+18)] 254))):=(HbelA.out.trans (HC.out.bel.mono (by have:=HN.out;omega))).trans (((Below.refl _ _).alloc (Nat.le_refl _) _:Below wf.heap.size wf _).mono (by have:=HN.out;omega));have hN1:=hTel.told.hn;generalize wf.alloc (.cells #[zbx (N+3),zbx (N+7),zbx (N+11),zfr (N+15),zfr (N+18)] 254)=wB at *;generalize N+3+18=g at *;generalize N+18=b5 at *;generalize N+15=b4 at *;generalize N+11=b3 at *;generalize N+7=b2 at *;generalize N+3=b1 at *;have H0:=zH hTel;obtain⟨r0,r1,r2,r3,r4⟩:=hTel.row;clear hTel;clear p0 p1 p2 p3 p4 q0 q1 q2 q3 q4 HC HpA HbA zA;have l1:=zdH p.bo q.bo 1 22;have l2:=zdH p.un q.un 4 24;have l3:=zdH p.re q.re 7 27;have l4:=zfN p.f q.f 30;have l5:=zfN p.b q.b 40;go_wp2_with fail;refine wp_loop_rounds 6 ?_;rw[rounds_succ];go_wp2_with fail;go_at_call 246;refine(H0.out.t1 (by first|omega|(simp only[List.length_append];omega))).mono ?_;rintro e w1 ⟨rfl,h1⟩;have h1':ZF wB w1 b1 b2 b3 b4 b5 g (N+1) (N+22) N base (Value.slice av ts.length cap).ownBlock p q (ts++ZV p.bo q.bo 1 22):=by first|exact h1|simpa only[List.append_assoc] using h1
 have H1:Hid _:=h1';clear h1';obtain⟨r0,r1,r2,r3,r4⟩:=h1.row;clear h1;go_wp2_with fail;rw[rounds_succ];go_wp2_with fail;go_at_call 246;refine(H1.out.t2 (by first|omega|(simp only[List.length_append];omega))).mono ?_;rintro e w2 ⟨rfl,h2⟩;have h2':ZF wB w2 b1 b2 b3 b4 b5 g (N+1) (N+22) N base (Value.slice av ts.length cap).ownBlock p q (ts++(ZV p.bo q.bo 1 22++ZV p.un q.un 4 24)):=by first|exact h2|simpa only[List.append_assoc] using h2
 have H2:Hid _:=h2';clear h2';obtain⟨r0,r1,r2,r3,r4⟩:=h2.row;clear h2;go_wp2_with fail;rw[rounds_succ];go_wp2_with fail;go_at_call 246;refine(H2.out.t3 (by first|omega|(simp only[List.length_append];omega))).mono ?_;rintro e w3 ⟨rfl,h3⟩;have h3':ZF wB w3 b1 b2 b3 b4 b5 g (N+1) (N+22) N base (Value.slice av ts.length cap).ownBlock p q (ts++(ZV p.bo q.bo 1 22++(ZV p.un q.un 4 24++ZV p.re q.re 7 27))):=by first|exact h3|simpa only[List.append_assoc] using h3
 have H3:Hid _:=h3';clear h3';obtain⟨r0,r1,r2,r3,r4⟩:=h3.row;clear h3;go_wp2_with fail;rw[rounds_succ];go_wp2_with fail;go_at_call 247;refine(H3.out.t4 hq (by first|omega|(simp only[List.length_append];omega))).mono ?_;rintro e w4 ⟨rfl,h4⟩;have h4':ZF wB w4 b1 b2 b3 b4 b5 g (N+1) (N+22) N base (Value.slice av ts.length cap).ownBlock p q (ts++(ZV p.bo q.bo 1 22++(ZV p.un q.un 4 24++(ZV p.re q.re 7 27++zbO p.f q.f 30)))):=by first|exact h4|simpa only[List.append_assoc] using h4
 have H4:Hid _:=h4';clear h4';obtain⟨r0,r1,r2,r3,r4⟩:=h4.row;clear h4;go_wp2_with fail;rw[rounds_succ];go_wp2_with fail;go_at_call 247;refine(H4.out.t5 hq (by first|omega|(simp only[List.length_append];omega))).mono ?_;rintro e w5 ⟨rfl,h5⟩;have h5':ZF wB w5 b1 b2 b3 b4 b5 g (N+1) (N+22) N base (Value.slice av ts.length cap).ownBlock p q (ts++(ZV p.bo q.bo 1 22++(ZV p.un q.un 4 24++(ZV p.re q.re 7 27++(zbO p.f q.f 30++zbO p.b q.b 40))))):=by first|exact h5|simpa only[List.append_assoc] using h5
 have H5:Hid _:=h5';clear h5';obtain⟨r0,r1,r2,r3,r4⟩:=h5.row;clear h5;go_wp2_with fail;rw[rounds_succ];have hE:(ZV p.bo q.bo 1 22++(ZV p.un q.un 4 24++(ZV p.re q.re 7 27++(zbO p.f q.f 30++zbO p.b q.b 40)))=zbe p q):=by unfold zbe;simp only[List.append_assoc]
 have HE:Hid _:=hE;clear hE;obtain⟨v5,hb5,hr5,_,_⟩:=H5.out.told.box;have c5:w5.cell? ⟨N,0,none⟩=some v5:=za hb5 0;have HR5:Hid (w5.ownsRow base 9 1 v5 (ts++zbe p q).length (zdn (ts++zbe p q))):=by
  have hE:=HE.out;rw[←hE];exact hr5
 clear hr5 hb5;go_wp2_with fail;go_ret;refine⟨v5,rfl,HR5.out,?_⟩;have hK:=H5.out.kp;have hb0:=HTel.out;have hNw:=HN.out;refine⟨hK.os.trans hb0.os,hK.tape.trans hb0.tape,hK.output.trans hb0.output,Nat.le_trans hb0.size hK.size,λi hi=>?_⟩;rw[hK.block i (by have:=hb0.size;omega) (by
  rintro(e|e|e)
  ·omega
  ·have:=(HR.out.lt i e).1;omega
  ·omega)]
 exact hb0.block i (by omega)
theorem zjZ (p q:Pn) (w:World):(binOp .eql 33 p.agg q.agg).run Tryz.prog w=.ok (.bool (p.eqB q)) w:=by
 obtain⟨f,b,bo,un,re⟩:=p;obtain⟨f',b',bo',un',re'⟩:=q;go_simp
 unfold Pn.eqB;by_cases h1:f=f'
 ·by_cases h2:b=b'
  ·by_cases h3:bo=bo'
   ·by_cases h4:un=un'
    ·by_cases h5:re=re'
     ·simp[h1,h2,h3,h4,h5]
     ·simp[h1,h2,h3,h4,h5]
    ·simp[h1,h2,h3,h4]
   ·simp[h1,h2,h3]
  ·simp[h1,h2]
 ·simp[h1]
theorem zsQ {w:World} {base g n cap:Nat} {xs:List Value} {t:TypeId} (h:w.ownsRow base t 1 (.slice (some ⟨g,0,none⟩) n cap) n xs) (j:Nat) (u:Value) (hj:xs[j]?=some u):w.cell? ⟨g,j,none⟩=some u:=by
 obtain⟨hl,h|⟨g',cap',cur,hv,hb,hg,hn,hm,hs,ht⟩⟩:=h
 ·simp at h
 ·simp at hv;obtain⟨rfl,rfl⟩:=hv;rw[za hg];rw[←ht] at hj;have hlt:j<n*1:=by
   have:=(List.getElem?_eq_some_iff.1 hj).1;simp at this;omega
  rw[List.getElem?_take_of_lt hlt] at hj;simpa using hj
theorem zlc {w:World} {base g n cap k:Nat} {xs:List Value} {t:TypeId} (h:w.ownsRow base t k (.slice (some ⟨g,0,none⟩) n cap) n xs):n<=cap:=by
 obtain⟨hl,h|⟨g',cap',cur,hv,hb,hg,hn,hm,hs,ht⟩⟩:=h
 ·simp at h
 ·simp at hv;obtain⟨rfl,rfl⟩:=hv;exact hn
theorem zqN (ts:List (Option Nat)) (base:Nat) (v:Value) (w:World) (ht:zbN ts) (hl:ts.length<=8) (hne:ts≠[]) (h:w.ownsRow base 9 1 v ts.length (zdn ts)):
 Calls Tryz.prog 216 #[zaD [109],v] w λe w'=>e=.returned (zaD (zaP 109 ts))/\Below w.heap.size w w':=by
 obtain⟨g,cap,rfl⟩:=zam h (List.length_pos_iff.2 hne);refine zgk 109 ts g 0 cap w ht hl (zlc h) hne (λj t hj=>?_);rw[Nat.zero_add];exact zsQ h j _ (by simp[zdn,hj])
theorem zh0 (p q:Pn) (w:World) (hq:q.Ok):
 Calls Tryz.prog 199 #[p.agg,q.agg] w λe w'=>e=.returned (zaD (zcD p q))/\Below w.heap.size w w':=by
 have hpe:=λw=>zjZ p q w;cases he:p.eqB q with
 |true=>
  have e:zcD p q=[]:=by unfold zcD;rw[if_pos he]
  rw[e];simp only[he] at hpe;go_in;go_wp2_with fail;go_ret;exact⟨rfl,((Below.refl _ _).alloc (Nat.le_refl _) _).alloc (by simp) _⟩
 |false=>
  simp only[he] at hpe;have hne:=Pn.eqB_not.1 he;obtain⟨t1,l1⟩:=zdI p hq;obtain⟨t2,l2⟩:=zdI Pn.plain hq;have HT1:Hid (zbN (zbe p q)/\(zbe p q).length<=5/\zbe p q≠[]):=⟨t1,l1,zqs hne⟩;have HT2:Hid (zbN (none::zbe Pn.plain q)/\(none::zbe Pn.plain q).length<=6):=⟨zc5 (a:=[none]) (λn hn=>by simp at hn) t2,by simp;omega⟩;have e:zcD p q=if (zaP 109 (none::zbe Pn.plain q)).length<(zaP 109 (zbe p q)).length then zaP 109 (none::zbe Pn.plain q) else zaP 109 (zbe p q):=by unfold zcD;rw[if_neg (by rw[he];decide)]
  have HE:=zH e;obtain⟨N,hN⟩:∃N,w.heap.size=N:=⟨_,rfl⟩;have HN:=zH hN;clear t1 l1 t2 l2 e hne he;go_in;go_wp2_with fail;have hA:∃wA,((w.alloc (.cells #[.int .i64 p.f,.int .i64 p.b,.bool p.bo,.bool p.un,.bool p.re] 33)).alloc (.cells #[.int .i64 q.f,.int .i64 q.b,.bool q.bo,.bool q.un,.bool q.re] 33))=wA/\wA.heap.size=N+2/\Zf wA (N+1) 0 q/\Below w.heap.size w wA:=by
   subst hN;refine⟨_,rfl,by simp,?_,((Below.refl _ _).alloc (Nat.le_refl _) _).alloc (by simp) _⟩;have e:∀o,((w.alloc (.cells #[.int .i64 p.f,.int .i64 p.b,.bool p.bo,.bool p.un,.bool p.re] 33)).alloc (.cells #[.int .i64 q.f,.int .i64 q.b,.bool q.bo,.bool q.un,.bool q.re] 33)).cell? ⟨w.heap.size+1,o,none⟩=(#[.int .i64 q.f,.int .i64 q.b,.bool q.bo,.bool q.un,.bool q.re]:Array Value)[o]?:=λo=>za (ZM _ _ (by simp)) o;exact⟨e 0,e 1,e 2,e 3,e 4⟩
  obtain⟨wA,hwA,zA,qA,belA⟩:=hA;rw[hwA];have HqA:=zH qA;have HbelA:=zH belA;clear hwA qA belA;go_at_call 217;refine(zlb none 0 p q [] wA.heap.size wA hq Z3 (by simp) (World.ownsRow_nil _ _ _ _) (Nat.le_refl _)).mono ?_;rintro e w1 ⟨v1,rfl,hr1,hb1⟩;rw[List.nil_append] at hr1;have Hr1:=zH hr1;have Hb1:=zH hb1;clear hr1 hb1;go_wp2_with fail;go_at_call 216;refine(zqN (zbe p q) _ v1 w1 HT1.out.1 (by have:=HT1.out.2.1;omega) HT1.out.2.2 Hr1.out).mono ?_;rintro e w2 ⟨rfl,hb2⟩;have HB2:=zH<|Hb1.out.trans (hb2.mono Hb1.out.size)
  have hz2:N+2<=w2.heap.size:=by have:=HB2.out.size;omega
  have HQ2:Hid (Zf (w2.alloc (.cells #[.string ⟨#[]⟩] 9)) (N+1) 0 q):=(HqA.out.same (HB2.out.block _ (by omega))).same (zN _ _ (by omega));have HB3:Hid (Below w.heap.size w (w2.alloc (.cells #[.string ⟨#[]⟩] 9))):=(HbelA.out.trans (HB2.out.mono (by have:=HN.out;omega))).alloc (by have:=HN.out;omega) _;have Hro:Hid ((w2.alloc (.cells #[.string ⟨#[]⟩] 9)).ownsRow w2.heap.size 9 1 (.slice (some ⟨w2.heap.size,0,none⟩) 1 1) 1 (zdn [none])):=⟨rfl,.inr ⟨_,_,_,rfl,Nat.le_refl _,zf _ _,Nat.le_refl _,by decide,rfl,rfl⟩⟩;clear hb2 Hr1 Hb1;obtain⟨q0,q1,q2,q3,q4⟩:=HQ2.out;go_wp2_with fail;go_at_call 217;refine(zlb (some ⟨w2.heap.size,0,none⟩) 1 Pn.plain q [none] w2.heap.size _ hq (λn hn=>by simp at hn) (by simp) Hro.out (by simp)).mono ?_;rintro e w4 ⟨v4,rfl,hr4,hb4⟩;have Hr4:Hid (w4.ownsRow w2.heap.size 9 1 v4 (none::zbe Pn.plain q).length (zdn (none::zbe Pn.plain q))):=hr4;have HB4:=zH<|HB3.out.trans (hb4.mono (by have:=HN.out;omega))
  clear hr4 hb4 q0 q1 q2 q3 q4 Hro HB3 HQ2;go_wp2_with fail;go_at_call 216;refine(zqN (none::zbe Pn.plain q) _ v4 w4 HT2.out.1 (by have:=HT2.out.2;omega) (by simp) Hr4.out).mono ?_;rintro e w5 ⟨rfl,hb5⟩;have HB5:=zH<|HB4.out.trans (hb5.mono HB4.out.size)
  clear hb5 Hr4;have hE:=HE.out;generalize zaP 109 (none::zbe Pn.plain q)=A at *;generalize zaP 109 (zbe p q)=B at *;by_cases hlt:A.length<B.length
  ·rw[if_pos hlt] at hE;have HE2:=zH hE;clear hE HE;have hs1:(({data:=A.toArray}:ByteArray).size:Int)<(({data:=B.toArray}:ByteArray).size:Int):=by show(A.length:Int)<(B.length:Int);omega
   go_wp2_with fail;go_ret;exact⟨by rw[HE2.out];rfl,HB5.out⟩
  ·rw[if_neg hlt] at hE;have HE2:=zH hE;clear hE HE;have hs1:¬(({data:=A.toArray}:ByteArray).size:Int)<(({data:=B.toArray}:ByteArray).size:Int):=by show¬(A.length:Int)<(B.length:Int);omega
   go_wp2_with fail;go_ret;exact⟨by rw[HE2.out];rfl,HB5.out⟩
theorem zny (p q:Pn) (w:World):(binOp .neq 33 p.agg q.agg).run Tryz.prog w=.ok (.bool (!p.eqB q)) w:=by
 obtain⟨f,b,bo,un,re⟩:=p;obtain⟨f',b',bo',un',re'⟩:=q;go_simp
 unfold Pn.eqB;by_cases h1:f=f'
 ·by_cases h2:b=b'
  ·by_cases h3:bo=bo'
   ·by_cases h4:un=un'
    ·by_cases h5:re=re'
     ·simp[h1,h2,h3,h4,h5]
     ·simp[h1,h2,h3,h4,h5]
    ·simp[h1,h2,h3,h4]
   ·simp[h1,h2,h3]
  ·simp[h1,h2]
 ·simp[h1]
theorem zvN (v st:Wy) (w:World) (hv:v.b.length<=1000) (hs:st.b.length<=1000):
 Calls Tryz.prog 226 #[v.agg,st.agg] w λe w'=>e=.returned (zaF v st).agg/\Below w.heap.size w w':=by
 have hpe:=λw=>zny v.e.pen st.e.pen w;have hz1:((({data:=v.b.toArray}:ByteArray).size:Nat):Int)=(v.b.length:Int):=rfl;have hb:(({data:=v.b.toArray}:ByteArray) ++ {data:=st.b.toArray})={data:=(v.b++st.b).toArray}:=zdK _ _;have hsz:(({data:=v.b.toArray}:ByteArray).size+({data:=st.b.toArray}:ByteArray).size)<=2000:=by show v.b.length+st.b.length<=2000;omega
 cases he:v.e.pen.eqB st.e.pen with
 |true=>
  simp only[he,Bool.not_true] at hpe;have e:(zaF v st).agg=.agg #[.string ⟨(v.b++st.b).toArray⟩,.int .i64 v.k,.int .i64 st.e.x,.int .i64 st.e.y,.bool st.e.pend,.int .i64 st.e.pen.f,.int .i64 st.e.pen.b,.bool st.e.pen.bo,.bool st.e.pen.un,.bool st.e.pen.re]:=by
   unfold zaF;rw[if_pos he]
  rw[e];go_in;go_wp2_with fail;exact bodyPost_ret (v:=(.agg #[.string ⟨(v.b++st.b).toArray⟩,.int .i64 v.k,.int .i64 st.e.x,.int .i64 st.e.y,.bool st.e.pend,.int .i64 st.e.pen.f,.int .i64 st.e.pen.b,.bool st.e.pen.bo,.bool st.e.pen.un,.bool st.e.pen.re])) (by simp[results,Tryz.results226,go_sem]) rfl ⟨rfl,(((Below.refl _ _).alloc (Nat.le_refl _) _).alloc (by simp) _).alloc (by simp;omega) _⟩
 |false=>
  simp only[he,Bool.not_false] at hpe;have e:(zaF v st).agg=(.agg #[.string ⟨(v.b++st.b).toArray⟩,.int .i64 v.b.length,.int .i64 st.e.x,.int .i64 st.e.y,.bool st.e.pend,.int .i64 st.e.pen.f,.int .i64 st.e.pen.b,.bool st.e.pen.bo,.bool st.e.pen.un,.bool st.e.pen.re]):=by
   unfold zaF;rw[if_neg (by rw[he];decide)]
  rw[e];go_in;go_wp2_with fail;exact bodyPost_ret (v:=(.agg #[.string ⟨(v.b++st.b).toArray⟩,.int .i64 v.b.length,.int .i64 st.e.x,.int .i64 st.e.y,.bool st.e.pend,.int .i64 st.e.pen.f,.int .i64 st.e.pen.b,.bool st.e.pen.bo,.bool st.e.pen.un,.bool st.e.pen.re])) (by simp[results,Tryz.results226,go_sem]) rfl ⟨rfl,by
   first
    |exact(((Below.refl _ _).alloc (Nat.le_refl _) _).alloc (by simp) _).alloc (by simp;omega) _
    |exact((((Below.refl _ _).alloc (Nat.le_refl _) _).alloc (by simp) _).alloc (by simp;omega) _).setCell (by simp) _
    |exact((((Below.refl _ _).alloc (Nat.le_refl _) _).alloc (by simp) _).setCell (by simp) _).alloc (by simp;omega) _⟩
theorem zvO (gx gy:Int) (gn:Pn) (lt:Bool) (x y:Int) (n:Pn) (w:World) (h0:0<=y) (h1:y<=1000):
 Calls Tryz.prog 224 #[Gl.agg (⟨gx,gy,gn,lt⟩:Gl),Sp.agg (⟨x,y,false,n⟩:Sp)] w λe w'=>e=.returned (.bool (decide (Sp.lx (⟨x,y,false,n⟩:Sp)=gx)&&decide (Sp.ly (⟨x,y,false,n⟩:Sp)=gy)&&n.eqB gn))/\Below w.heap.size w w':=by
 have hpe:=λw=>zjZ n gn w;have HL:=zH<|λW=>zhY (⟨x,y,false,n⟩:Sp) W h0 h1
 obtain⟨N,hN⟩:∃N,w.heap.size=N:=⟨_,rfl⟩;have HN:=zH hN;go_in;go_wp2_with fail;have hA:∃wA,((w.alloc (.cells #[.int .i64 gx,.int .i64 gy,.int .i64 gn.f,.int .i64 gn.b,.bool gn.bo,.bool gn.un,.bool gn.re,.bool lt] 211)).alloc (.cells #[.int .i64 x,.int .i64 y,.bool false,.int .i64 n.f,.int .i64 n.b,.bool n.bo,.bool n.un,.bool n.re] 235))=wA/\wA.heap.size=N+2/\(∀o,wA.cell? ⟨N,o,none⟩=(#[.int .i64 gx,.int .i64 gy,.int .i64 gn.f,.int .i64 gn.b,.bool gn.bo,.bool gn.un,.bool gn.re,.bool lt]:Array Value)[o]?)/\(∀o,wA.cell? ⟨N+1,o,none⟩=(#[.int .i64 x,.int .i64 y,.bool false,.int .i64 n.f,.int .i64 n.b,.bool n.bo,.bool n.un,.bool n.re]:Array Value)[o]?)/\Below w.heap.size w wA:=by
  subst hN;exact⟨_,rfl,by simp,λo=>za (by rw[zN _ _ (by simp),ZM _ _ rfl]) o,λo=>za (ZM _ _ (by simp)) o,((Below.refl _ _).alloc (Nat.le_refl _) _).alloc (by simp) _⟩
 obtain⟨wA,hwA,zA,cg,cp,belA⟩:=hA;rw[hwA];have HbA:=zH belA;clear hwA belA hN;go_at_call 238;refine(HL.out _).mono ?_;rintro e w1 ⟨rfl,hb1⟩;have e0:=hb1.cells (b:=N) (by omega);have e1:=hb1.cells (b:=N+1) (by omega);have HB1:=zH<|HbA.out.trans (hb1.mono (by have:=HN.out;omega))
 clear hb1 HL;by_cases c1:Sp.lx (⟨x,y,false,n⟩:Sp)=gx
 ·by_cases c2:Sp.ly (⟨x,y,false,n⟩:Sp)=gy
  ·go_wp2_with fail;go_ret;exact⟨by simp[c1,c2],HB1.out⟩
  ·go_wp2_with fail;go_ret;exact⟨by simp[c1,c2],HB1.out⟩
 ·go_wp2_with fail;go_ret;exact⟨by simp[c1],HB1.out⟩
theorem zvP (gx gy:Int) (gn:Pn) (x y:Int) (n:Pn) (w:World) (h0:0<=y) (h1:y<=1000):
 Calls Tryz.prog 224 #[Gl.agg (⟨gx,gy,gn,true⟩:Gl),Sp.agg (⟨x,y,true,n⟩:Sp)] w λe w'=>e=.returned (.bool (decide (Sp.lx (⟨x,y,true,n⟩:Sp)=gx)&&decide (Sp.ly (⟨x,y,true,n⟩:Sp)=gy)&&n.eqB gn))/\Below w.heap.size w w':=by
 have hpe:=λw=>zjZ n gn w;have HL:=zH<|λW=>zhY (⟨x,y,true,n⟩:Sp) W h0 h1
 obtain⟨N,hN⟩:∃N,w.heap.size=N:=⟨_,rfl⟩;have HN:=zH hN;go_in;go_wp2_with fail;have hA:∃wA,((w.alloc (.cells #[.int .i64 gx,.int .i64 gy,.int .i64 gn.f,.int .i64 gn.b,.bool gn.bo,.bool gn.un,.bool gn.re,.bool true] 211)).alloc (.cells #[.int .i64 x,.int .i64 y,.bool true,.int .i64 n.f,.int .i64 n.b,.bool n.bo,.bool n.un,.bool n.re] 235))=wA/\wA.heap.size=N+2/\(∀o,wA.cell? ⟨N,o,none⟩=(#[.int .i64 gx,.int .i64 gy,.int .i64 gn.f,.int .i64 gn.b,.bool gn.bo,.bool gn.un,.bool gn.re,.bool true]:Array Value)[o]?)/\(∀o,wA.cell? ⟨N+1,o,none⟩=(#[.int .i64 x,.int .i64 y,.bool true,.int .i64 n.f,.int .i64 n.b,.bool n.bo,.bool n.un,.bool n.re]:Array Value)[o]?)/\Below w.heap.size w wA:=by
  subst hN;exact⟨_,rfl,by simp,λo=>za (by rw[zN _ _ (by simp),ZM _ _ rfl]) o,λo=>za (ZM _ _ (by simp)) o,((Below.refl _ _).alloc (Nat.le_refl _) _).alloc (by simp) _⟩
 obtain⟨wA,hwA,zA,cg,cp,belA⟩:=hA;rw[hwA];have HbA:=zH belA;clear hwA belA hN;go_at_call 238;refine(HL.out _).mono ?_;rintro e w1 ⟨rfl,hb1⟩;have e0:=hb1.cells (b:=N) (by omega);have e1:=hb1.cells (b:=N+1) (by omega);have HB1:=zH<|HbA.out.trans (hb1.mono (by have:=HN.out;omega))
 clear hb1 HL;by_cases c1:Sp.lx (⟨x,y,true,n⟩:Sp)=gx
 ·by_cases c2:Sp.ly (⟨x,y,true,n⟩:Sp)=gy
  ·go_wp2_with fail;go_ret;exact⟨by simp[c1,c2],HB1.out⟩
  ·go_wp2_with fail;go_ret;exact⟨by simp[c1,c2],HB1.out⟩
 ·go_wp2_with fail;go_ret;exact⟨by simp[c1],HB1.out⟩
theorem zvQ (g:Gl) (p:Sp) (w:World) (h0:0<=p.y) (h1:p.y<=1000):
 Calls Tryz.prog 224 #[g.agg,p.agg] w λe w'=>e=.returned (.bool (g.isAt p))/\Below w.heap.size w w':=by
 obtain⟨gx,gy,gn,lt⟩:=g;obtain⟨x,y,pd,n⟩:=p;cases pd with
 |false=>exact zvO gx gy gn lt x y n w h0 h1
 |true=>
  cases lt with
  |true=>exact zvP gx gy gn x y n w h0 h1
  |false=>
   have e:Gl.isAt ⟨gx,gy,gn,false⟩ ⟨x,y,true,n⟩=false:=rfl;rw[e];go_in;go_wp2_with fail;go_ret;exact⟨rfl,((Below.refl _ _).alloc (Nat.le_refl _) _).alloc (by simp) _⟩
end
section
open Go.RowKit
abbrev Wy.vals (v:Wy):List Value:=[zaD v.b,.int .i64 v.k,.int .i64 v.e.x,.int .i64 v.e.y,.bool v.e.pend,.int .i64 v.e.pen.f,.int .i64 v.e.pen.b,.bool v.e.pen.bo,.bool v.e.pen.un,.bool v.e.pen.re]
def ZG (L:List Wy):List Value:=L.flatMap Wy.vals
theorem zdM (L M:List Wy):ZG (L++M)=ZG L++ZG M:=by simp[ZG]
theorem zc9 (v:Wy) (L:List Wy):ZG (v::L)=v.vals++ZG L:=by simp[ZG]
theorem zcj (L:List Wy):(ZG L).length=L.length*10:=by
 induction L with
 |nil=>rfl
 |cons v t ih=>rw[zc9,List.length_append,ih,List.length_cons];simp;omega
theorem zdN (v:Wy):∀u∈v.vals,u.oneCell'=true:=by simp[Value.oneCell']
def zqO (xs:List Value) (o:Nat):List Value->List Value
 |[]=>xs
 |v::vs=>zqO (xs.set o v) (o+1) vs
theorem zqP (vs:List Value):∀(pre mid post:List Value),mid.length=vs.length->zqO (pre++mid++post) pre.length vs=pre++vs++post:=by
 induction vs with
 |nil=>intro pre mid post h;rw[List.eq_nil_of_length_eq_zero h];rfl
 |cons v t ih=>
  intro pre mid post h;cases mid with
  |nil=>simp at h
  |cons m ms=>
   show zqO ((pre++m::ms++post).set pre.length v) (pre.length+1) t=_;have e:(pre++m::ms++post).set pre.length v=(pre ++ [v])++ms++post:=by simp
   rw[e];have:=ih (pre ++ [v]) ms post (by simpa using h);rw[List.length_append] at this;simp only[List.length_cons,List.length_nil,Nat.zero_add] at this;rw[this];simp
theorem zgO {L:List Wy} {k:Nat} (hk:k<L.length):ZG L=ZG (L.take k)++(gW L k).vals++ZG (L.drop (k+1)):=by
 have e:L=L.take k++gW L k::L.drop (k+1):=by
  have:gW L k=L[k]:=by simp[gW,List.getD,hk]
  rw[this,List.getElem_cons_drop,List.take_append_drop]
 conv=>lhs;rw[e]
 rw[zdM,zc9,List.append_assoc]
theorem zoK {L:List Wy} {k:Nat} (hk:k<L.length) (v:Wy):zqO (ZG L) (k*10) v.vals=ZG (L.set k v):=by
 have hl:(ZG (L.take k)).length=k*10:=by rw[zcj,List.length_take];rw[Nat.min_eq_left (by omega)]
 rw[zgO hk,←hl,zqP v.vals _ (gW L k).vals _ rfl,List.set_eq_take_append_cons_drop,if_pos hk,zdM,zc9,List.append_assoc]
theorem zqQ {w:World} {base:Nat} {e:TypeId} {size g n cap:Nat} {xs:List Value} (h:w.ownsRow base e size (.slice (some ⟨g,0,none⟩) n cap) n xs) (k:Nat) (u:Value):(w.setCell ⟨g,k,none⟩ u).ownsRow base e size (.slice (some ⟨g,0,none⟩) n cap) n (xs.set k u):=by
 obtain⟨hl,h|⟨g',cap',cur,hv,hb,hg,hn,hm,hs,ht⟩⟩:=h
 ·simp at h
 ·obtain⟨rfl,rfl⟩:g=g'/\cap=cap':=by simpa using hv
  refine⟨by simpa using hl,.inr ⟨g,cap,_,rfl,hb,zg hg k u,hn,hm,by simpa using hs,?_⟩⟩;rw[Array.toList_setIfInBounds,List.take_set,ht]
theorem zqR {base:Nat} {e:TypeId} {size g n cap:Nat} (vs:List Value):∀ {w:World} {xs:List Value} (o:Nat),w.ownsRow base e size (.slice (some ⟨g,0,none⟩) n cap) n xs->(w.setCells g o vs).ownsRow base e size (.slice (some ⟨g,0,none⟩) n cap) n (zqO xs o vs):=by
 induction vs with
 |nil=>intro w xs o h;exact h
 |cons v t ih=>intro w xs o h;exact ih (o+1) (zqQ h o v)
abbrev zcA (w:World) (base g n cap:Nat) (L:List Wy):Prop:=w.ownsRow base 237 10 (.slice (some ⟨g,0,none⟩) n cap) n (ZG L)
theorem zh1 {w:World} {base g n cap:Nat} {L:List Wy} (h:zcA w base g n cap L):L.length=n:=by
 have:=h.1;rw[zcj] at this;omega
theorem zeK {w:World} {base g n cap:Nat} {L:List Wy} (h:zcA w base g n cap L):∃cur:Array Value,w.heap[g]?=some (.cells cur 237)/\cur.size=cap*10/\n<=cap/\cur.toList.take (n*10)=ZG L/\base<=g:=by
 obtain⟨hl,h|⟨g',cap',cur,hv,hb,hg,hn,hm,hs,ht⟩⟩:=h
 ·simp at h
 ·simp at hv;obtain⟨rfl,rfl⟩:=hv;exact⟨cur,hg,hs,hn,ht,hb⟩
theorem zbt {w:World} {base g n cap:Nat} {L:List Wy} (h:zcA w base g n cap L) {k:Nat} (hk:k<n):w.rangeAt g (k*10) (gW L k).vals:=by
 have hl:=zh1 h;obtain⟨cur,hg,_,_,ht,_⟩:=zeK h;intro j v hv;have hj:j<10:=by have:=(List.getElem?_eq_some_iff.1 hv).1;simpa using this
 rw[za hg];have e:(ZG L)[k*10+j]?=some v:=by
  rw[zgO (k:=k) (by omega),List.append_assoc,List.getElem?_append_right (by rw[zcj,List.length_take];omega)];have:k*10+j-(ZG (L.take k)).length=j:=by rw[zcj,List.length_take,Nat.min_eq_left (by omega)];omega
  rw[this,List.getElem?_append_left (by simpa using hj)];exact hv
 rw[←ht,List.getElem?_take_of_lt (by omega)] at e;simpa using e
theorem zoL {w:World} {base g n cap m:Nat} {L:List Wy} (h:zcA w base g n cap L) (hm:m<=n):zcA w base g m cap (L.take m):=by
 have hl:=zh1 h;obtain⟨hl',h|⟨g',cap',cur,hv,hb,hg,hn,hmx,hs,ht⟩⟩:=h
 ·simp at h
 ·simp at hv;obtain⟨rfl,rfl⟩:=hv;refine⟨by rw[zcj,List.length_take,Nat.min_eq_left (by omega)],.inr ⟨g,cap,cur,rfl,hb,hg,by omega,hmx,hs,?_⟩⟩;have e1:ZG L=ZG (L.take m)++ZG (L.drop m):=by rw[←zdM,List.take_append_drop]
  have e2:(ZG (L.take m)).length=m*10:=by rw[zcj,List.length_take,Nat.min_eq_left (by omega)]
  have e:ZG (L.take m)=(ZG L).take (m*10):=by rw[e1,←e2,List.take_left]
  rw[e,←ht,List.take_take,Nat.min_eq_left (by omega)]
theorem zqS {w:World} {base g n cap:Nat} {L:List Wy} (h:zcA w base g n cap L) {k:Nat} (hk:k<n) (v:Wy):zcA (w.setCells g (k*10) v.vals) base g n cap (L.set k v):=by
 have hl:=zh1 h;have:=zqR v.vals (k*10) h;rw[zoK (by omega)] at this;exact this
end
end Go.Proofs.YtjlfibhbfdckpaaGreatDoor
