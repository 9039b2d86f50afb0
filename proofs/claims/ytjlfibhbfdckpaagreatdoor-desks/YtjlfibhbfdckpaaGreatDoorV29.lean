import Derived.Test.YtjlfibhbfdckpaaGreatDoorV28
import Derived.Deep.DeepCutAuto
namespace Go.Proofs.YtjlfibhbfdckpaaGreatDoor
set_option maxHeartbeats 64000000
set_option maxRecDepth 100000
section
open Go.RowKit
attribute [local go_sem ↓] Go.wp_at_zero Go.wp_at_succ
section
variable {R:Rm} {L:List Wn} {last:Int}
def cnd (n x y:Int) (u:Wn):Bool:=decide (u.par=n)&&hit x y u
def Nxt (L:List Wn) (n x y:Int) (nx k:Nat):Prop:=
 (nx=0/\∀(i:Nat) (v:Wn),i<k->L[i]?=some v->cnd n x y v=false)\/(1<=nx/\∃v,L[nx]?=some v/\cnd n x y v=true/\∀(i:Nat) (u:Wn),nx<i->i<k->L[i]?=some u->cnd n x y u=false)
theorem Nxt.skip {n x y:Int} {nx k:Nat} {v:Wn} (h:Nxt L n x y nx k) (hv:L[k]?=some v) (hc:cnd n x y v=false):Nxt L n x y nx (k+1):=by
 rcases h with⟨e,h⟩|⟨e,u,hu,hcu,h⟩
 ·refine .inl ⟨e,λi u hi hu=>?_⟩;by_cases hik:i=k
  ·subst hik;rw[hv] at hu;injection hu with hu;rw[←hu];exact hc
  ·exact h i u (by omega) hu
 ·refine .inr ⟨e,u,hu,hcu,λi z hi hi2 hz=>?_⟩;by_cases hik:i=k
  ·subst hik;rw[hv] at hz;injection hz with hz;rw[←hz];exact hc
  ·exact h i z hi (by omega) hz
theorem Nxt.take {n x y:Int} {nx k:Nat} {v:Wn} (_h:Nxt L n x y nx k) (hk:1<=k) (hv:L[k]?=some v) (hc:cnd n x y v=true):Nxt L n x y k (k+1):=
 .inr ⟨hk,v,hv,hc,λi u h1 h2=>by omega⟩
theorem Nxt.none {n x y:Int} (h:Nxt L n x y 0 L.length):zcw L n x y=none:=by
 rcases h with⟨_,h⟩|⟨e,_⟩
 ·rw[zkC];exact zfF L (λk v hv=>h k v (List.getElem?_eq_some_iff.1 hv).1 hv)
 ·omega
theorem Nxt.some {n x y:Int} {nx:Nat} (h:Nxt L n x y nx L.length) (h1:nx≠0):∃v,L[nx]?=some v/\zcw L n x y=some v:=by
 rcases h with⟨e,_⟩|⟨_,v,hv,hc,h⟩
 ·exact absurd e h1
 ·refine⟨v,hv,?_⟩;rw[zkC];exact zjK L nx v hv hc (λk u hk hu=>h k u hk (List.getElem?_eq_some_iff.1 hu).1 hu)
def zmq (L:List Wn) (rk:Int->Nat) (i:Value):Nat:=rk ((L[(intOf i).toNat]?.map Wn.n).getD 0)
theorem zjO {rk:Int->Nat} {K:Nat} (T:ZR L rk K) (ok:ZK L last) (w:World) (h:Zq w R L last) (r:Wn) (hr:L[0]?=some r) (x y:Int) (hin:inG r.W r.H x y=true):
 Calls Tryz.prog 93 #[.pointer (some ⟨R.d,0,none⟩),.int .i64 x,.int .i64 y] w λe w'=>∃j:Nat,e=.returned (.tuple #[.int .i64 j,.int .i64 (zaf L K r x y).2.1,.int .i64 (zaf L K r x y).2.2])/\L[j]?=some (zaf L K r x y).1/\Below w.heap.size w w':=by
 have HT:=zH T;have HR:=zH h;have Hok:=zH ok;have h16:=ok.len;obtain⟨g,cap,hl,hw,hfz,_⟩:=h.sl ok.one;have Hl:=zH hl;clear h T hw hl hfz;go_in;go_wp2_with fail;go_loopw[1,2,9] (λxv yv iv w'=>∃(i f:Nat) (u:Wn) (X Y:Int),xv=.int .i64 X/\yv=.int .i64 Y/\iv=.int .i64 i/\L[i]?=some u/\K<=rk u.n+f/\zaf L f u X Y=zaf L K r x y/\inG u.W u.H X Y=true/\Below w.heap.size w w') (λ_ _ iv _=>K-zmq L rk iv)
 case atStart=>exact⟨0,K,r,x,y,rfl,rfl,rfl,hr,by omega,rfl,hin,Below.refl _ _⟩
 case round=>
  obtain⟨i,f,u,X,Y,rfl,rfl,rfl,hi,hf,ho,hiG,hB⟩:=hrel;have hu:=List.mem_of_getElem? hi;have un0:=HT.out.pos hu;have hil:=(List.getElem?_eq_some_iff.1 hi).1;have hil':(i:Int)<(L.length:Int):=by omega
  have hW:=(HR.out.win u hu).w2;have hH:=(HR.out.win u hu).h2;have hbX:=zu.1 hiG;have hX0:=hbX.1;have hX1:X<40:=by omega
  have hY0:=hbX.2.2.1;have hY1:Y<20:=by omega
  have Hi:=zH hi;have Hf:=zH hf;have Ho:=zH ho;have HiG:=zH hiG;clear hi hf ho hiG hbX hW hH;have hroot:Hid (cnd u.n X Y r=false):=by
   show _=_;obtain⟨r',t,e,h0,h1,_⟩:=HT.out.head;rw[e] at hr;obtain rfl:r'=r:=by simpa using hr
   unfold cnd;rw[decide_eq_false (by omega)];rfl
  have hone:=Hok.out.one;go_wp2_with fail;go_loopw[10,11] (λnv kv w'=>∃nx k:Nat,nv=.int .i64 nx/\kv=.int .i64 k/\1<=k/\k<=L.length/\nx<k/\Nxt L u.n X Y nx k/\Below w.heap.size w w') (λ_ kv _=>20-(intOf kv).toNat)
  case atStart=>
   refine⟨0,1,rfl,rfl,by omega,hone,by omega,.inl ⟨rfl,λi v hi hv=>?_⟩,hB⟩;obtain rfl:i=0:=by omega
   rw[hr] at hv;injection hv with e;rw[←e];exact hroot.out
  case round=>
   clear hB;obtain⟨nx,k,rfl,rfl,hk1,hkl,hnk,hN,hB⟩:=hrel;have HN:=zH hN;have hRr:=HR.out.below hB;have HRr:=zH hRr;obtain⟨g',cap',hl',hw',_,_⟩:=hRr.sl Hok.out.one;obtain⟨rfl,rfl⟩:g=g'/\cap=cap':=by have:=Hl.out.symm.trans hl';simpa using this
   have d0:=hRr.d0;rw[hl'] at d0;obtain⟨i0,i1,i2,i3,i4,i5⟩:=hw' i u Hi.out;by_cases hlt:k<L.length
   ·have hlt':(k:Int)<(L.length:Int):=by omega
    obtain⟨v,hv⟩:∃v,L[k]?=some v:=⟨_,List.getElem?_eq_getElem hlt⟩;have hvL:=List.mem_of_getElem? hv;have Hv:=zH hv;obtain⟨c0,c1,c2,c3,c4,c5⟩:=hw' k v hv;obtain⟨x0,x1,y0,y1⟩:=Hok.out.pl v hvL;have sx:IntKind.i64.wrap (X-v.x)=X-v.x:=zm _ (by omega) (by omega);have sy:IntKind.i64.wrap (Y-v.y)=Y-v.y:=zm _ (by omega) (by omega);have e0:=(hRr.win v hvL).c0;have e1:=(hRr.win v hvL).c1;have bl:=(hRr.win v hvL).lt;clear hRr hw' hl' hv hN;go_wp2_with fail;go_at_call 92;refine sM (zbQ (R.c v.n) v.W v.H (X-v.x) (Y-v.y) _ (by rw[((Below.refl wr.heap.size wr).alloc (Nat.le_refl _) _).cell (p:=⟨R.c v.n,0,none⟩) bl];exact e0) (by rw[((Below.refl wr.heap.size wr).alloc (Nat.le_refl _) _).cell (p:=⟨R.c v.n,1,none⟩) bl];exact e1)) ?_;have hB2:Below w.heap.size w (wr.alloc (.cells #[.int .i64 v.n,.int .i64 v.par,.int .i64 v.x,.int .i64 v.y,.bool v.sh,.pointer (some ⟨R.c v.n,0,none⟩)] 107)):=hB.trans (((Below.refl _ _).alloc (Nat.le_refl _) _).mono hB.size);have bq:Below wr.heap.size wr (wr.alloc (.cells #[.int .i64 v.n,.int .i64 v.par,.int .i64 v.x,.int .i64 v.y,.bool v.sh,.pointer (some ⟨R.c v.n,0,none⟩)] 107)):=(Below.refl _ _).alloc (Nat.le_refl _) _;have hnq:=zf wr (.cells #[.int .i64 v.n,.int .i64 v.par,.int .i64 v.x,.int .i64 v.y,.bool v.sh,.pointer (some ⟨R.c v.n,0,none⟩)] 107);have q1:=za hnq 1;have q4:=za hnq 4;have d0q:=(bq.cell (p:=⟨R.d,0,none⟩) (World.block_lt_of_cell? _ _ d0)).trans d0;have i0q:=(bq.cell (p:=⟨g,i*6,none⟩) (World.block_lt_of_cell? _ _ i0)).trans i0;simp only[List.getElem?_toArray,List.getElem?_cons_succ,List.getElem?_cons_zero] at q1 q4;generalize (wr.alloc (.cells #[.int .i64 v.n,.int .i64 v.par,.int .i64 v.x,.int .i64 v.y,.bool v.sh,.pointer (some ⟨R.c v.n,0,none⟩)] 107))=wq at *;clear e0 e1 bl c5 c2 c3 bq hnq d0 i0 c0 c1 c4;by_cases hp:v.par=u.n
    ·have hpb:(v.par==u.n)=true:=by simpa using hp
     cases hsh:v.sh with
     |false=>
      have Hc:Hid (cnd u.n X Y v=false):=by show _=_;simp[cnd,hit,hsh]
      rw[hsh] at q4;clear hp;go_wp2_with fail;go_quiet (fail);go_wp2_with fail;go_roundw
      case rel=>exact⟨nx,k+1,rfl,by simp,by omega,by omega,by omega,HN.out.skip Hv.out Hc.out,hB2.trans ((Zc _ nq).mono hB2.size)⟩
      case measure=>simp[intOf];omega
     |true=>
      rw[hsh] at q4;cases hi:inG v.W v.H (X-v.x) (Y-v.y) with
      |false=>
       have Hc:Hid (cnd u.n X Y v=false):=by show _=_;simp[cnd,hit,hi]
       clear hp;go_wp2_with fail;go_quiet (fail);go_wp2_with fail;go_roundw
       case rel=>exact⟨nx,k+1,rfl,by simp,by omega,by omega,by omega,HN.out.skip Hv.out Hc.out,hB2.trans ((Zc _ nq).mono hB2.size)⟩
       case measure=>simp[intOf];omega
      |true=>
       have Hc:Hid (cnd u.n X Y v=true):=by show _=_;simp[cnd,hit,hi,hsh,hp]
       clear hp;go_wp2_with fail;go_quiet (fail);go_wp2_with fail;go_roundw
       case rel=>exact⟨k,k+1,rfl,by simp,by omega,by omega,by omega,HN.out.take hk1 Hv.out Hc.out,hB2.trans ((Zc _ nq).mono hB2.size)⟩
       case measure=>simp[intOf];omega
    ·have hpb:(v.par==u.n)=false:=by simpa using hp
     have Hc:Hid (cnd u.n X Y v=false):=by show _=_;simp[cnd,hp]
     clear hp;go_wp2_with fail;go_quiet (fail);go_wp2_with fail;go_roundw
     case rel=>exact⟨nx,k+1,rfl,by simp,by omega,by omega,by omega,HN.out.skip Hv.out Hc.out,hB2.trans ((Zc _ nq).mono hB2.size)⟩
     case measure=>simp[intOf];omega
   ·have hlt':¬(k:Int)<(L.length:Int):=by omega
    obtain rfl:k=L.length:=by omega
    by_cases hn0:nx=0
    ·subst hn0;have HE:Hid (zaf L K r x y=(u,X,Y)):=by
      show _=_;rw[←Ho.out,HT.out.ownSucc hu Hf.out,HN.out.none]
     clear hRr hw' hl' hN;go_wp2_with fail;exact bodyPost_ret (v:=.tuple #[.int .i64 i,.int .i64 X,.int .i64 Y]) (by simp[results,Tryz.results93,go_sem]) rfl (by rw[HE.out];exact⟨i,rfl,Hi.out,hB⟩)
    ·obtain⟨v,hv,hnx⟩:=HN.out.some hn0;have hn0':¬(nx:Int)=0:=by omega
     have hvL:=List.mem_of_getElem? hv;have hnl:=(List.getElem?_eq_some_iff.1 hv).1;have hnl':(nx:Int)<(L.length:Int):=by omega
     obtain⟨c0,c1,c2,c3,c4,c5⟩:=hw' nx v hv;obtain⟨x0,x1,y0,y1⟩:=Hok.out.pl v hvL;have sx:IntKind.i64.wrap (X-v.x)=X-v.x:=zm _ (by omega) (by omega);have sy:IntKind.i64.wrap (Y-v.y)=Y-v.y:=zm _ (by omega) (by omega);obtain⟨_,hvp,_,hvi⟩:=zcX hnx;have hrk:=(HT.out.up v hvL (by omega)).2;rw[hvp] at hrk;have hrK:=HT.out.le v hvL;have hf':=Hf.out;have HF:Hid (∃(i f:Nat) (u:Wn) (X' Y':Int),Value.int .i64 (X-v.x)=.int .i64 X'/\Value.int .i64 (Y-v.y)=.int .i64 Y'/\Value.int .i64 nx=.int .i64 i/\L[i]?=some u/\K<=rk u.n+f/\zaf L f u X' Y'=zaf L K r x y/\inG u.W u.H X' Y'=true/\Below w.heap.size w wr):=
      ⟨nx,f-1,v,X-v.x,Y-v.y,rfl,rfl,rfl,hv,by omega,by rw[←Ho.out,HT.out.ownSucc hu Hf.out,hnx],hvi,hB⟩
     have HM:Hid (K-zmq L rk (.int .i64 nx)<K-zmq L rk (.int .i64 i)):=by
      have e1:zmq L rk (.int .i64 nx)=rk v.n:=by simp[zmq,intOf,hv]
      have e2:zmq L rk (.int .i64 i)=rk u.n:=by simp[zmq,intOf,Hi.out]
      show _<_;rw[e1,e2];omega
     clear hRr hw' hl' hN hv hnx hvp hvi hrk hrK hf' c0 c1 c4 c5;go_wp2_with fail;go_roundw
     case rel=>exact HF.out
     case measure=>exact HM.out
end
theorem zok (w:World) (x y:Int):
 Calls Tryz.prog 39 #[.pointer none,.int .i64 x,.int .i64 y] w λe w'=>e=.returned (.tuple #[noC.agg,.int .i64 1])/\Below w.heap.size w w':=by
 go_in;go_wp2_with fail;exact bodyPost_ret (v:=.tuple #[noC.agg,.int .i64 1]) (by simp[results,Tryz.results39,go_sem,noC,Pn.plain]) rfl ⟨rfl,(Below.refl _ _).alloc (Nat.le_refl _) _⟩
section
variable {R:Rm} {L:List Wn} {last:Int}
theorem zqj (nd:(L.map Wn.n).Nodup) {i j:Nat} {a b:Wn} (hi:L[i]?=some a) (hj:L[j]?=some b) (h:a.n=b.n):i=j:=by
 have h1:=(List.getElem?_eq_some_iff.1 hi).1;have h2:=(List.getElem?_eq_some_iff.1 hj).1;have:=List.getElem_inj (i:=i) (j:=j) (h₀:=by simpa using h1) (h₁:=by simpa using h2) nd;exact this.1 (by rw[List.getElem_map,List.getElem_map,(List.getElem?_eq_some_iff.1 hi).2,(List.getElem?_eq_some_iff.1 hj).2,h])
theorem zol (ok:ZK L last) (w:World) (h:Zq w R L last) (r:Wn) (hr:L[0]?=some r) (x y:Int) (hin:inG r.W r.H x y=false):
 Calls Tryz.prog 39 #[.pointer (some ⟨R.d,0,none⟩),.int .i64 x,.int .i64 y] w λe w'=>e=.returned (.tuple #[noC.agg,.int .i64 4])/\Below w.heap.size w w':=by
 have d0:=h.d0;obtain⟨g,cap,hl,hw,hfz,_⟩:=h.sl ok.one;rw[hl] at d0;obtain⟨c0,c1,c2,c3,c4,c5⟩:=hw 0 r hr;rw[Nat.zero_mul] at c0 c1 c2 c3 c4 c5;have hv:=List.mem_of_getElem? hr;have e0:=Zb (h.win r hv).c0 (.cells Z7 38);have e1:=Zb (h.win r hv).c1 (.cells Z7 38);replace d0:=Zb d0 (.cells Z7 38);replace c5:=Zb c5 (.cells Z7 38);have hjl:=ok.one;have hjl':(0:Int)<(L.length:Int):=by omega
 have C2:zv (w.alloc (.cells Z7 38)) w.heap.size 0 noC:=zaq w noC 38;have F2:=ze (zf w (.cells Z7 38));have hb0:Below w.heap.size w (w.alloc (.cells Z7 38)):=(Below.refl _ _).alloc (Nat.le_refl _) _;have P4:=zai (c:=noC) C2;have B4:=((zd.below (λi=>i=w.heap.size) hb0).put7 w.heap.size 0 noC (λh=>rfl)).toBelow (Nat.le_refl _) (λi hi=>by omega);clear h hw hl c0 c1 c2 c3 c4;go_in;go_wp2_with (first|((go_at_call 92;refine sM (zbQ _ _ _ _ _ _ e0 e1) ?_);generalize w.alloc (.cells Z7 38)=wa at *;obtain⟨q0,q1,q2,q3,q4,q5,q6⟩:=C2));change bodyPost _ _ _ _ _ (put7 wa w.heap.size 0 noC);generalize put7 wa w.heap.size 0 noC=w4 at *;clear q0 q1 q2 q3 q4 q5 q6;obtain⟨q0,q1,q2,q3,q4,q5,q6⟩:=P4;refine bodyPost_ret (v:=.tuple #[noC.agg,.int .i64 4]) ?_ rfl ⟨rfl,B4⟩;simp[results,Tryz.results39,go_sem,q0,q1,q2,q3,q4,q5,q6]
theorem zhC {rk:Int->Nat} {K:Nat} (T:ZR L rk K) (ok:ZK L last) (w:World) (h:Zq w R L last) (r:Wn) (hr:L[0]?=some r) (x y:Nat) (hin:inG r.W r.H x y=true):
 Calls Tryz.prog 39 #[.pointer (some ⟨R.d,0,none⟩),.int .i64 x,.int .i64 y] w λe w'=>e=.returned (.tuple #[(zcx L K r x y).agg,.int .i64 0])/\Below w.heap.size w w':=by
 have HT:=zH T;have Hok:=zH ok;have Hin:=zH hin;have hv:=List.mem_of_getElem? hr;have hW:=(h.win r hv).w2;have hH:=(h.win r hv).h2;have hxy:=zu.1 hin;have d0:=h.d0;obtain⟨g,cap,hl,hw,hfz,_⟩:=h.sl ok.one;rw[hl] at d0;have Hl:=zH hl;obtain⟨c0,c1,c2,c3,c4,c5⟩:=hw 0 r hr;rw[Nat.zero_mul] at c0 c1 c2 c3 c4 c5;have e0:=Zb (h.win r hv).c0 (.cells Z7 38);have e1:=Zb (h.win r hv).c1 (.cells Z7 38);replace d0:=Zb d0 (.cells Z7 38);replace c5:=Zb c5 (.cells Z7 38);have hjl:=ok.one;have hjl':(0:Int)<(L.length:Int):=by omega
 have C2:zv (w.alloc (.cells Z7 38)) w.heap.size 0 noC:=zaq w noC 38;have F2:=ze (zf w (.cells Z7 38));have hb0:Below w.heap.size w (w.alloc (.cells Z7 38)):=(Below.refl _ _).alloc (Nat.le_refl _) _;have HRa:=zH<|h.below hb0
 have HB:=zH hb0;have HC:=zH C2;have HF:=zH F2;have l2:=C2.lt;clear h hw hl c0 c1 c2 c3 c4 C2 F2 hb0 T ok;obtain⟨pc,hpc⟩:∃pc,zcx L K r x y=pc:=⟨_,rfl⟩;rw[hpc];have Hpc:=zH hpc.symm;clear hpc;go_in;go_wp2_with (first|(go_at_call 92;refine sM (zbQ _ _ _ _ _ _ e0 e1) ?_));generalize w.alloc (.cells Z7 38)=wa at *;clear e0 e1 d0 c5;go_at_call 93;refine(zjO HT.out Hok.out _ HRa.out r hr x y Hin.out).mono ?_;have hoi:=HT.out.ownIn K r x y hv (by omega) Hin.out;rintro e w1 ⟨j,rfl,hj,b1⟩;have hpd:=Hpc.out;unfold zcx at hpd;obtain⟨⟨o,X,Y⟩,hO⟩:∃q,zaf L K r x y=q:=⟨_,rfl⟩;rw[hO] at hj hoi hpd;simp only[hO];dsimp only at hj hoi hpd;have Hj:=zH hj;have Hpd:Hid (pc=if (o.G X.toNat Y.toNat).p=1 then za6 L K r o (o.G X.toNat Y.toNat) (x+1) y else if (o.G X.toNat Y.toNat).p=2 then za6 L K r o (o.G X.toNat Y.toNat) (x-1) y else o.G X.toNat Y.toNat):=hpd;obtain⟨hoL,hoG⟩:=hoi;have hXY:=zu.1 hoG;have HR1:=zH<|HRa.out.below b1
 have HB1:=zH<|HB.out.trans (b1.mono HB.out.size)
 have HC1:=zH<|HC.out.below b1 l2
 have HF1:=zH<|λo=>(b1.marks l2 o).trans (HF.out o)
 have l3:=HC1.out.lt;obtain⟨g',cap',hl',hw',_,_⟩:=HR1.out.sl Hok.out.one;obtain⟨rfl,rfl⟩:g=g'/\cap=cap':=by have:=Hl.out.symm.trans hl';simpa using this
 have d0:=HR1.out.d0;rw[hl'] at d0;obtain⟨c0,c1,c2,c3,c4,c5⟩:=hw' j o hj;have hjL:=(List.getElem?_eq_some_iff.1 hj).1;have hjL':(j:Int)<(L.length:Int):=by omega
 clear hpd hO hw' hl' b1 HRa HB HC HF l2 hj c0 c1 c2 c3 c4;go_wp2_with fail;go_at_call 94;refine(zeo (R.c o.n) (R.g o.n) (R.cap o.n) o.W o.H _ o.G X Y _ (HR1.out.win o hoL) (by omega) (by omega) (by omega) (by omega)).mono ?_;rintro e w2 ⟨rfl,b2⟩;have hpart:=(HR1.out.wf o hoL).part X.toNat Y.toNat (by omega) (by omega);generalize o.G X.toNat Y.toNat=c at *;have HR2:=zH<|HR1.out.below b2
 have HB2:=zH<|HB1.out.trans (b2.mono HB1.out.size)
 have HC2:=zH<|HC1.out.below b2 l3
 have HF2:=zH<|λo=>(b2.marks l3 o).trans (HF1.out o)
 have l4:=HC2.out.lt;clear HR1 HB1 HC1 HF1 b2 l3 d0 c5 hoG hXY;obtain⟨cr,cp,cn⟩:=c;rcases hpart with⟨hp,_⟩|⟨hp,_⟩|⟨hp,_⟩
 ·dsimp only at hp;subst hp;rename_i hwdc;clear hwdc;have b3:Below w2.heap.size w2 (w2.alloc (.cells (zaG (⟨cr,0,cn⟩:zk)) 38)):=(Below.refl _ _).alloc (Nat.le_refl _) _;have A3:zv (w2.alloc (.cells (zaG (⟨cr,0,cn⟩:zk)) 38)) w2.heap.size 0 (⟨cr,0,cn⟩:zk):=zaq w2 (⟨cr,0,cn⟩:zk) 38;have HC3:=zH<|HC2.out.below b3 l4
  have HF3:=zH<|λo=>(b3.marks l4 o).trans (HF2.out o)
  have HB3:=zH<|HB2.out.trans (b3.mono HB2.out.size)
  have HR3:=zH<|HR2.out.below b3
  obtain⟨a0,a1,a2,a3,a4,a5,a6⟩:=id A3;simp only[Nat.zero_add] at a1 a2 a3 a4 a5 a6;have HA3:=zH A3;have l5:=HC3.out.lt;have l6:=A3.lt;clear HR2 HB2 HC2 HF2 b3 A3;obtain rfl:(⟨cr,0,cn⟩:zk)=pc:=by rw[Hpd.out,if_neg (by simp),if_neg (by simp)]
  go_upto_if 55 with fail;generalize (w2.alloc (.cells (zaG (⟨cr,0,cn⟩:zk)) 38))=w3 at *;clear a0 a1;obtain⟨a0,a1,a2,a3,a4,a5,a6⟩:=HA3.out;simp only[Nat.zero_add] at a1 a2 a3 a4 a5 a6;have HP4:=zH<|zai (c:=(⟨cr,0,cn⟩:zk)) HC3.out
  have HB4:=zH<|((zd.below (λi=>i=w.heap.size) HB3.out).put7 w.heap.size 0 (⟨cr,0,cn⟩:zk) (λh=>rfl)).toBelow (Nat.le_refl _) (λi hi=>by omega)
  obtain⟨q0,q1,q2,q3,q4,q5,q6⟩:=HC3.out;simp only[Nat.zero_add] at q1 q2 q3 q4 q5 q6;have G5:=HF3.out;go_wp2_with fail;change bodyPost _ _ _ _ _ (put7 w3 w.heap.size 0 (⟨cr,0,cn⟩:zk));generalize put7 w3 w.heap.size 0 (⟨cr,0,cn⟩:zk)=w4 at *;clear q0 q1 q2 q3 q4 q5 q6;obtain⟨q0,q1,q2,q3,q4,q5,q6⟩:=HP4.out;simp only[Nat.zero_add] at q1 q2 q3 q4 q5 q6;refine bodyPost_ret (v:=.tuple #[zk.agg (⟨cr,0,cn⟩:zk),.int .i64 0]) ?_ rfl ⟨rfl,HB4.out⟩;simp[results,Tryz.results39,go_sem,q0,q1,q2,q3,q4,q5,q6]
 ·dsimp only at hp;subst hp;rename_i hwdc;clear hwdc;have b3:Below w2.heap.size w2 (w2.alloc (.cells (zaG (⟨cr,1,cn⟩:zk)) 38)):=(Below.refl _ _).alloc (Nat.le_refl _) _;have A3:zv (w2.alloc (.cells (zaG (⟨cr,1,cn⟩:zk)) 38)) w2.heap.size 0 (⟨cr,1,cn⟩:zk):=zaq w2 (⟨cr,1,cn⟩:zk) 38;have HC3:=zH<|HC2.out.below b3 l4
  have HF3:=zH<|λo=>(b3.marks l4 o).trans (HF2.out o)
  have HB3:=zH<|HB2.out.trans (b3.mono HB2.out.size)
  have HR3:=zH<|HR2.out.below b3
  obtain⟨a0,a1,a2,a3,a4,a5,a6⟩:=id A3;simp only[Nat.zero_add] at a1 a2 a3 a4 a5 a6;have HA3:=zH A3;have l5:=HC3.out.lt;have l6:=A3.lt;clear HR2 HB2 HC2 HF2 b3 A3;have Hpp:Hid (pc=za6 L K r o (⟨cr,1,cn⟩:zk) (x+1) y):=by show _=_;rw[Hpd.out,if_pos rfl]
  clear Hpd;unfold za6 at Hpp;obtain⟨g',cap',hl',hw',_,_⟩:=HR3.out.sl Hok.out.one;obtain⟨rfl,rfl⟩:g=g'/\cap=cap':=by have:=Hl.out.symm.trans hl';simpa using this
  have d0:=HR3.out.d0;rw[hl'] at d0;obtain⟨c0,c1,c2,c3,c4,c5⟩:=hw' 0 r hr;rw[Nat.zero_mul] at c0 c1 c2 c3 c4 c5;have e0:=(HR3.out.win r hv).c0;have e1:=(HR3.out.win r hv).c1;have sx:IntKind.i64.wrap ((x:Int)+1)=(x:Int)+1:=zm _ (by omega) (by omega);have sx':IntKind.i64.wrap ((x:Int)+1)=(x:Int)+1:=by rw[show(x:Int)+1=(x:Int)+1 by omega];exact sx
  clear hw' hl' c0 c1 c2 c3 c4;cases hth:inG r.W r.H ((x:Int)+1) y with
  |false=>
   obtain rfl:blk cn=pc:=by rw[Hpp.out,if_neg (by simp[hth])]
   go_wp2_with (first|(go_at_call 92;refine sM (zbQ _ _ _ _ _ _ e0 e1) ?_));generalize (w2.alloc (.cells (zaG (⟨cr,1,cn⟩:zk)) 38))=w3 at *;go_at_call 95;refine(zaj cn _).mono ?_;rintro e w6 ⟨rfl,b6⟩;replace HC3:=zH<|HC3.out.below b6 l5
   replace HF3:=zH<|λo=>(b6.marks l5 o).trans (HF3.out o)
   replace HB3:=zH<|HB3.out.trans (b6.mono HB3.out.size)
   clear b6;have HP4:=zH<|zai (c:=(blk cn)) HC3.out
   have HB4:=zH<|((zd.below (λi=>i=w.heap.size) HB3.out).put7 w.heap.size 0 (blk cn) (λh=>rfl)).toBelow (Nat.le_refl _) (λi hi=>by omega)
   obtain⟨q0,q1,q2,q3,q4,q5,q6⟩:=HC3.out;simp only[Nat.zero_add] at q1 q2 q3 q4 q5 q6;have G5:=HF3.out;go_wp2_with fail;change bodyPost _ _ _ _ _ (put7 w6 w.heap.size 0 (blk cn));generalize put7 w6 w.heap.size 0 (blk cn)=w4 at *;clear q0 q1 q2 q3 q4 q5 q6;obtain⟨q0,q1,q2,q3,q4,q5,q6⟩:=HP4.out;simp only[Nat.zero_add] at q1 q2 q3 q4 q5 q6;refine bodyPost_ret (v:=.tuple #[zk.agg (blk cn),.int .i64 0]) ?_ rfl ⟨rfl,HB4.out⟩;simp[results,Tryz.results39,go_sem,q0,q1,q2,q3,q4,q5,q6]
  |true=>
   go_wp2_with (first|(go_at_call 92;refine sM (zbQ _ _ _ _ _ _ e0 e1) ?_));generalize (w2.alloc (.cells (zaG (⟨cr,1,cn⟩:zk)) 38))=w3 at *;go_at_call 93;refine(zjO HT.out Hok.out _ HR3.out r hr ((x:Int)+1) y hth).mono ?_;rintro e w5 ⟨k,rfl,hk,b5⟩;have HA5:=zH<|HA3.out.below b5 l6
   replace HC3:=zH<|HC3.out.below b5 l5
   replace HF3:=zH<|λo=>(b5.marks l5 o).trans (HF3.out o)
   replace HB3:=zH<|HB3.out.trans (b5.mono HB3.out.size)
   replace l5:=HC3.out.lt;clear a0 a1 a2 a3 a4 a5 a6 HA3 HR3 b5 d0 c5 e0 e1 l6;obtain⟨a0,a1,a2,a3,a4,a5,a6⟩:=HA5.out;simp only[Nat.zero_add] at a1 a2 a3 a4 a5 a6;obtain⟨⟨o',X',Y'⟩,hO'⟩:∃q,zaf L K r ((x:Int)+1) y=q:=⟨_,rfl⟩;rw[hO'] at hk Hpp;simp only[hO'];dsimp only at hk Hpp;clear hO';by_cases hkj:k=j
   ·subst hkj;have hoo:o'=o:=by have:=hk.symm.trans Hj.out;injection this
    obtain rfl:(⟨cr,1,cn⟩:zk)=pc:=by rw[Hpp.out,if_pos ⟨hth,by rw[hoo]⟩]
    clear hk hoo;have HP4:=zH<|zai (c:=(⟨cr,1,cn⟩:zk)) HC3.out
    have HB4:=zH<|((zd.below (λi=>i=w.heap.size) HB3.out).put7 w.heap.size 0 (⟨cr,1,cn⟩:zk) (λh=>rfl)).toBelow (Nat.le_refl _) (λi hi=>by omega)
    obtain⟨q0,q1,q2,q3,q4,q5,q6⟩:=HC3.out;simp only[Nat.zero_add] at q1 q2 q3 q4 q5 q6;have G5:=HF3.out;go_wp2_with fail;change bodyPost _ _ _ _ _ (put7 w5 w.heap.size 0 (⟨cr,1,cn⟩:zk));generalize put7 w5 w.heap.size 0 (⟨cr,1,cn⟩:zk)=w4 at *;clear q0 q1 q2 q3 q4 q5 q6;obtain⟨q0,q1,q2,q3,q4,q5,q6⟩:=HP4.out;simp only[Nat.zero_add] at q1 q2 q3 q4 q5 q6;refine bodyPost_ret (v:=.tuple #[zk.agg (⟨cr,1,cn⟩:zk),.int .i64 0]) ?_ rfl ⟨rfl,HB4.out⟩;simp[results,Tryz.results39,go_sem,q0,q1,q2,q3,q4,q5,q6]
   ·have hkj':((k:Int)==(j:Int))=false:=by simp;omega
    have hkj2:¬(k:Int)=(j:Int):=by omega
    obtain rfl:blk cn=pc:=by rw[Hpp.out,if_neg (λq=>hkj (zqj HT.out.nd hk Hj.out q.2))]
    clear hk;go_wp2_with fail;clear a0 a1 a2 a3 a4 a5 a6;go_at_call 95;refine(zaj cn _).mono ?_;rintro e w6 ⟨rfl,b6⟩;replace HC3:=zH<|HC3.out.below b6 l5
    replace HF3:=zH<|λo=>(b6.marks l5 o).trans (HF3.out o)
    replace HB3:=zH<|HB3.out.trans (b6.mono HB3.out.size)
    clear b6;have HP4:=zH<|zai (c:=(blk cn)) HC3.out
    have HB4:=zH<|((zd.below (λi=>i=w.heap.size) HB3.out).put7 w.heap.size 0 (blk cn) (λh=>rfl)).toBelow (Nat.le_refl _) (λi hi=>by omega)
    obtain⟨q0,q1,q2,q3,q4,q5,q6⟩:=HC3.out;simp only[Nat.zero_add] at q1 q2 q3 q4 q5 q6;have G5:=HF3.out;go_wp2_with fail;change bodyPost _ _ _ _ _ (put7 w6 w.heap.size 0 (blk cn));generalize put7 w6 w.heap.size 0 (blk cn)=w4 at *;clear q0 q1 q2 q3 q4 q5 q6;obtain⟨q0,q1,q2,q3,q4,q5,q6⟩:=HP4.out;simp only[Nat.zero_add] at q1 q2 q3 q4 q5 q6;refine bodyPost_ret (v:=.tuple #[zk.agg (blk cn),.int .i64 0]) ?_ rfl ⟨rfl,HB4.out⟩;simp[results,Tryz.results39,go_sem,q0,q1,q2,q3,q4,q5,q6]
 ·dsimp only at hp;subst hp;rename_i hwdc;clear hwdc;have b3:Below w2.heap.size w2 (w2.alloc (.cells (zaG (⟨cr,2,cn⟩:zk)) 38)):=(Below.refl _ _).alloc (Nat.le_refl _) _;have A3:zv (w2.alloc (.cells (zaG (⟨cr,2,cn⟩:zk)) 38)) w2.heap.size 0 (⟨cr,2,cn⟩:zk):=zaq w2 (⟨cr,2,cn⟩:zk) 38;have HC3:=zH<|HC2.out.below b3 l4
  have HF3:=zH<|λo=>(b3.marks l4 o).trans (HF2.out o)
  have HB3:=zH<|HB2.out.trans (b3.mono HB2.out.size)
  have HR3:=zH<|HR2.out.below b3
  obtain⟨a0,a1,a2,a3,a4,a5,a6⟩:=id A3;simp only[Nat.zero_add] at a1 a2 a3 a4 a5 a6;have HA3:=zH A3;have l5:=HC3.out.lt;have l6:=A3.lt;clear HR2 HB2 HC2 HF2 b3 A3;have Hpp:Hid (pc=za6 L K r o (⟨cr,2,cn⟩:zk) (x-1) y):=by show _=_;rw[Hpd.out,if_neg (by simp),if_pos rfl]
  clear Hpd;unfold za6 at Hpp;obtain⟨g',cap',hl',hw',_,_⟩:=HR3.out.sl Hok.out.one;obtain⟨rfl,rfl⟩:g=g'/\cap=cap':=by have:=Hl.out.symm.trans hl';simpa using this
  have d0:=HR3.out.d0;rw[hl'] at d0;obtain⟨c0,c1,c2,c3,c4,c5⟩:=hw' 0 r hr;rw[Nat.zero_mul] at c0 c1 c2 c3 c4 c5;have e0:=(HR3.out.win r hv).c0;have e1:=(HR3.out.win r hv).c1;have sx:IntKind.i64.wrap ((x:Int)-1)=(x:Int)-1:=zm _ (by omega) (by omega);have sx':IntKind.i64.wrap ((x:Int) + -1)=(x:Int)-1:=by rw[show(x:Int) + -1=(x:Int)-1 by omega];exact sx
  clear hw' hl' c0 c1 c2 c3 c4;cases hth:inG r.W r.H ((x:Int)-1) y with
  |false=>
   obtain rfl:blk cn=pc:=by rw[Hpp.out,if_neg (by simp[hth])]
   go_wp2_with (first|(go_at_call 92;refine sM (zbQ _ _ _ _ _ _ e0 e1) ?_));generalize (w2.alloc (.cells (zaG (⟨cr,2,cn⟩:zk)) 38))=w3 at *;go_at_call 95;refine(zaj cn _).mono ?_;rintro e w6 ⟨rfl,b6⟩;replace HC3:=zH<|HC3.out.below b6 l5
   replace HF3:=zH<|λo=>(b6.marks l5 o).trans (HF3.out o)
   replace HB3:=zH<|HB3.out.trans (b6.mono HB3.out.size)
   clear b6;have HP4:=zH<|zai (c:=(blk cn)) HC3.out
   have HB4:=zH<|((zd.below (λi=>i=w.heap.size) HB3.out).put7 w.heap.size 0 (blk cn) (λh=>rfl)).toBelow (Nat.le_refl _) (λi hi=>by omega)
   obtain⟨q0,q1,q2,q3,q4,q5,q6⟩:=HC3.out;simp only[Nat.zero_add] at q1 q2 q3 q4 q5 q6;have G5:=HF3.out;go_wp2_with fail;change bodyPost _ _ _ _ _ (put7 w6 w.heap.size 0 (blk cn));generalize put7 w6 w.heap.size 0 (blk cn)=w4 at *;clear q0 q1 q2 q3 q4 q5 q6;obtain⟨q0,q1,q2,q3,q4,q5,q6⟩:=HP4.out;simp only[Nat.zero_add] at q1 q2 q3 q4 q5 q6;refine bodyPost_ret (v:=.tuple #[zk.agg (blk cn),.int .i64 0]) ?_ rfl ⟨rfl,HB4.out⟩;simp[results,Tryz.results39,go_sem,q0,q1,q2,q3,q4,q5,q6]
  |true=>
   go_wp2_with (first|(go_at_call 92;refine sM (zbQ _ _ _ _ _ _ e0 e1) ?_));generalize (w2.alloc (.cells (zaG (⟨cr,2,cn⟩:zk)) 38))=w3 at *;go_at_call 93;refine(zjO HT.out Hok.out _ HR3.out r hr ((x:Int)-1) y hth).mono ?_;rintro e w5 ⟨k,rfl,hk,b5⟩;have HA5:=zH<|HA3.out.below b5 l6
   replace HC3:=zH<|HC3.out.below b5 l5
   replace HF3:=zH<|λo=>(b5.marks l5 o).trans (HF3.out o)
   replace HB3:=zH<|HB3.out.trans (b5.mono HB3.out.size)
   replace l5:=HC3.out.lt;clear a0 a1 a2 a3 a4 a5 a6 HA3 HR3 b5 d0 c5 e0 e1 l6;obtain⟨a0,a1,a2,a3,a4,a5,a6⟩:=HA5.out;simp only[Nat.zero_add] at a1 a2 a3 a4 a5 a6;obtain⟨⟨o',X',Y'⟩,hO'⟩:∃q,zaf L K r ((x:Int)-1) y=q:=⟨_,rfl⟩;rw[hO'] at hk Hpp;simp only[hO'];dsimp only at hk Hpp;clear hO';by_cases hkj:k=j
   ·subst hkj;have hoo:o'=o:=by have:=hk.symm.trans Hj.out;injection this
    obtain rfl:(⟨cr,2,cn⟩:zk)=pc:=by rw[Hpp.out,if_pos ⟨hth,by rw[hoo]⟩]
    clear hk hoo;have HP4:=zH<|zai (c:=(⟨cr,2,cn⟩:zk)) HC3.out
    have HB4:=zH<|((zd.below (λi=>i=w.heap.size) HB3.out).put7 w.heap.size 0 (⟨cr,2,cn⟩:zk) (λh=>rfl)).toBelow (Nat.le_refl _) (λi hi=>by omega)
    obtain⟨q0,q1,q2,q3,q4,q5,q6⟩:=HC3.out;simp only[Nat.zero_add] at q1 q2 q3 q4 q5 q6;have G5:=HF3.out;go_wp2_with fail;change bodyPost _ _ _ _ _ (put7 w5 w.heap.size 0 (⟨cr,2,cn⟩:zk));generalize put7 w5 w.heap.size 0 (⟨cr,2,cn⟩:zk)=w4 at *;clear q0 q1 q2 q3 q4 q5 q6;obtain⟨q0,q1,q2,q3,q4,q5,q6⟩:=HP4.out;simp only[Nat.zero_add] at q1 q2 q3 q4 q5 q6;refine bodyPost_ret (v:=.tuple #[zk.agg (⟨cr,2,cn⟩:zk),.int .i64 0]) ?_ rfl ⟨rfl,HB4.out⟩;simp[results,Tryz.results39,go_sem,q0,q1,q2,q3,q4,q5,q6]
   ·have hkj':((k:Int)==(j:Int))=false:=by simp;omega
    have hkj2:¬(k:Int)=(j:Int):=by omega
    obtain rfl:blk cn=pc:=by rw[Hpp.out,if_neg (λq=>hkj (zqj HT.out.nd hk Hj.out q.2))]
    clear hk;go_wp2_with fail;clear a0 a1 a2 a3 a4 a5 a6;go_at_call 95;refine(zaj cn _).mono ?_;rintro e w6 ⟨rfl,b6⟩;replace HC3:=zH<|HC3.out.below b6 l5
    replace HF3:=zH<|λo=>(b6.marks l5 o).trans (HF3.out o)
    replace HB3:=zH<|HB3.out.trans (b6.mono HB3.out.size)
    clear b6;have HP4:=zH<|zai (c:=(blk cn)) HC3.out
    have HB4:=zH<|((zd.below (λi=>i=w.heap.size) HB3.out).put7 w.heap.size 0 (blk cn) (λh=>rfl)).toBelow (Nat.le_refl _) (λi hi=>by omega)
    obtain⟨q0,q1,q2,q3,q4,q5,q6⟩:=HC3.out;simp only[Nat.zero_add] at q1 q2 q3 q4 q5 q6;have G5:=HF3.out;go_wp2_with fail;change bodyPost _ _ _ _ _ (put7 w6 w.heap.size 0 (blk cn));generalize put7 w6 w.heap.size 0 (blk cn)=w4 at *;clear q0 q1 q2 q3 q4 q5 q6;obtain⟨q0,q1,q2,q3,q4,q5,q6⟩:=HP4.out;simp only[Nat.zero_add] at q1 q2 q3 q4 q5 q6;refine bodyPost_ret (v:=.tuple #[zk.agg (blk cn),.int .i64 0]) ?_ rfl ⟨rfl,HB4.out⟩;simp[results,Tryz.results39,go_sem,q0,q1,q2,q3,q4,q5,q6]
end
theorem zd5 (w:World) (q:Obj) (n:Nat) (h:n=w.heap.size):(w.alloc q).heap[n]?=some q:=by subst h;exact zf w q
def VAt (w:World) (b:Nat) (v:Wn) (c:Nat):Prop:=w.heap[b]?=some (.cells (zdF v c) 107)
theorem VAt.lt {w:World} {b:Nat} {v:Wn} {c:Nat} (h:VAt w b v c):b<w.heap.size:=(Array.getElem?_eq_some_iff.1 h).1
theorem VAt.cells {w:World} {b:Nat} {v:Wn} {c:Nat} (h:VAt w b v c):w.cell? ⟨b,0,none⟩=some (.int .i64 v.n)/\w.cell? ⟨b,1,none⟩=some (.int .i64 v.par)/\w.cell? ⟨b,2,none⟩=some (.int .i64 v.x)/\w.cell? ⟨b,3,none⟩=some (.int .i64 v.y)/\w.cell? ⟨b,4,none⟩=some (.bool v.sh)/\w.cell? ⟨b,5,none⟩=some (.pointer (some ⟨c,0,none⟩)):=
 ⟨za h 0,za h 1,za h 2,za h 3,za h 4,za h 5⟩
structure NwL (w:World) (c:Int->Nat) (u:Value) (M:List Wn) (v:Wn) (w':World):Prop where
 row:w'.ownsRow (w.heap.size+1) 107 6 u M.length (ZE c M)
 cp:VAt w' w.heap.size v (c v.n)
 bel:Below w.heap.size w w'
theorem NwL.more {w w1 w2:World} {c:Int->Nat} {u:Value} {M:List Wn} {v a:Wn} {g cap:Nat} (h:NwL w c u M v w1) (q:Obj) (hr:w2.ownsRow (w.heap.size+1) 107 6 (.slice (some ⟨g,0,none⟩) (M.length+1) cap) (M.length+1) (ZE c (M ++ [a]))) (hg:(w1.alloc q).grownBy w2 u.ownBlock):NwL w c (.slice (some ⟨g,0,none⟩) (M.length+1) cap) (M ++ [a]) v w2:=by
 have hl:=h.cp.lt;refine⟨by rw[List.length_append];exact hr,?_,?_⟩
 ·show _=_;rw[hg.block _ (by rw[size_alloc];omega) (λe=>by have:=(h.row.lt _ e.symm).1;omega),Below.heap_alloc _ _ _ hl];exact h.cp
 ·exact(h.bel.alloc h.bel.size _).grown hg (by rw[size_alloc];have:=h.bel.size;omega) (λi hi=>by have:=(h.row.lt i hi).1;omega)
section
variable {R:Rm} {L:List Wn} {last:Int}
theorem zhM (h1:1<=L.length) (h16:L.length<=16) (w:World) (h:Zq w R L last) (v:Wn) (j:Nat) (hj:L[j]?=some v) (hne2:∀i u,i≠j->L[i]?=some u->u.n≠v.n) (hj0:j≠0):
 Calls Tryz.prog 100 #[.pointer (some ⟨R.d,0,none⟩),.int .i64 v.n,.bool true] w (Zr R L (zG L v.n ++ [v]) last w (.int .i64 0)):=by
 have HR:=zH h;have H:=zH<|zkN h1 h16 w h v j hj (λi u hi=>hne2 i u (by omega)) hj0
 have d0:=h.d0;obtain⟨g,cap,hl,hw,hfz,_⟩:=h.sl h1;rw[hl] at d0;have Hl:=zH hl;obtain⟨c0,c1,c2,c3,c4,c5⟩:=hw j v hj;obtain⟨r,hr⟩:∃r,L[0]?=some r:=⟨_,List.getElem?_eq_getElem (by omega)⟩;obtain⟨r0,r1,r2,r3,r4,r5⟩:=hw 0 r hr;rw[Nat.zero_mul] at r0 r1 r2 r3 r4 r5;have hjl:=(List.getElem?_eq_some_iff.1 hj).1;have hjl':(j:Int)<(L.length:Int):=by omega
 have hjl0:(0:Int)<(L.length:Int):=by omega
 have hrn:=hne2 0 r (λe=>hj0 e.symm) hr;have h2B:=h.two _ (zbp R L);have hdl:=h.lt (zbp R L);have d0a:=Zb d0 (.cells (zdF v (R.c v.n)) 107);replace r0:=Zb r0 (.cells (zdF v (R.c v.n)) 107);replace r1:=Zb r1 (.cells (zdF v (R.c v.n)) 107);replace r2:=Zb r2 (.cells (zdF v (R.c v.n)) 107);replace r3:=Zb r3 (.cells (zdF v (R.c v.n)) 107);replace r4:=Zb r4 (.cells (zdF v (R.c v.n)) 107);replace r5:=Zb r5 (.cells (zdF v (R.c v.n)) 107);have HN0:Hid (NwL w R.c (.slice none 0 0) [] v (w.alloc (.cells (zdF v (R.c v.n)) 107))):=⟨World.ownsRow_nil _ _ _ _,zf w _,(Below.refl _ _).alloc (Nat.le_refl _) _⟩;have Hne2:=zH hne2;have Hj:=zH hj;have Hf1:Hid (Zx L v.n 1=[r]):=by
  show _=_;rw[zdk hr hrn];rfl
 clear h hw hl hj hne2 hr hrn;go_in;go_wp2_with (first|(go_at_call 143;refine sM H.out ?_)|(at_builtin;go_must (refine zar _ (by rfl) (.tmp 28) (.tmp 35) (by rfl) (w.heap.size+1) (.slice none 0 0) R.c ([]) r 0 rfl (by rfl) (World.ownsRow_nil _ _ _ _) (w.heap.size+1) (by rfl) (zd5 _ _ _ (by simp)) (by omega) (by simp only[size_alloc];omega) ?_);intro g7 cap7 w7 hr7 hg7 ho7 hl7;have HN1:Hid (NwL w R.c (.slice (some ⟨g7,0,none⟩) 1 cap7) [r] v w7):=HN0.out.more _ hr7 hg7;obtain⟨y0,y1,y2,y3,y4,y5⟩:=HN1.out.cp.cells;have z1:=HN1.out.bel.size;clear hr7 hg7 ho7 c0 c1 c2 c3 c4 c5 r0 r1 r2 r3 r4 r5 d0a d0));clear y0 y1 y2 y3 y4 y5 z1;go_wp2_with fail;go_loopw[10,11] (λu i w'=>∃k:Nat,1<=k/\k<=L.length/\i=.int .i64 k/\NwL w R.c u (Zx L v.n k) v w') (λ_ i _=>20-(intOf i).toNat)
 case atStart=>exact⟨1,by omega,h1,rfl,by rw[Hf1.out];exact HN1.out⟩
 case round=>
  obtain⟨k,hk1,hkl,rfl,hN⟩:=hrel;generalize u10=u at *;have HN:=zH hN;have hRr:=HR.out.below hN.bel;obtain⟨g',cap',hl',hw',_,_⟩:=hRr.sl h1;obtain⟨rfl,rfl⟩:g=g'/\cap=cap':=by have:=Hl.out.symm.trans hl';simpa using this
  have d0:=hRr.d0;rw[hl'] at d0;have zr:=hN.bel.size;have zc:=hN.cp.lt;by_cases hlt:k<L.length
  ·have hlt':(k:Int)<(L.length:Int):=by omega
   obtain⟨a,ha⟩:∃a,L[k]?=some a:=⟨_,List.getElem?_eq_getElem hlt⟩;by_cases hkj:k=j
   ·subst hkj;obtain rfl:a=v:=by have:=ha.symm.trans Hj.out;injection this
    have HN2:Hid (NwL w R.c u (Zx L a.n (k+1)) a wr):=by
     show NwL _ _ _ _ _ _;rw[zgE ha rfl];exact hN
    clear hN hRr hw' hl' ha;go_wp2_with fail;go_roundw
    case rel=>exact⟨k+1,by omega,by omega,by simp,HN2.out⟩
    case measure=>simp[intOf];omega
   ·have hkj':((k:Int)==(j:Int))=false:=by simp;omega
    have hkj2:¬(k:Int)=(j:Int):=by omega
    have Hfk:=zH<|zdk ha (Hne2.out k a hkj ha)
    have hfl:=zd1 L v.n k;obtain⟨c0,c1,c2,c3,c4,c5⟩:=hw' k a ha;have Hfn:Hid (1<=(Zx L v.n k).length):=by
     show 1<=_;have e:(Zx L v.n 1).length<=(Zx L v.n k).length:=by
      unfold Zx zG;exact((List.take_sublist_take_left hk1).filter _).length_le
     rw[Hf1.out] at e;exact e
    skip
    clear hN hRr hw' hl';go_wp2_with (first|(at_builtin;go_must (refine zar _ (by rfl) (.tmp 55) (.tmp 63) (by rfl) (w.heap.size+1) (u) R.c (Zx L v.n k) a _ rfl (by rfl) (zx HN.out.row (λi hi=>Below.heap_alloc _ _ _ (Zw HN.out.row hi).1)) wr.heap.size (by rfl) (zd5 _ _ _ (by simp)) (by omega) (by simp only[size_alloc];omega) ?_);intro g7 cap7 w7 hr7 hg7 ho7 hl7));have HN2:Hid (NwL w R.c (.slice (some ⟨g7,0,none⟩) ((Zx L v.n k).length+1) cap7) (Zx L v.n (k+1)) v w7):=by
     show NwL _ _ _ _ _ _;rw[Hfk.out];exact HN.out.more _ hr7 hg7
    clear hr7 hg7 ho7;go_wp2_with fail;go_roundw
    case rel=>exact⟨k+1,by omega,by omega,by simp,HN2.out⟩
    case measure=>simp[intOf];omega
  ·have hlt':¬(k:Int)<(L.length:Int):=by omega
   obtain rfl:k=L.length:=by omega
   have Hall:=zH<|zhz L v.n
   have hfl:=zd1 L v.n L.length;clear hRr hw' hl';obtain⟨y0,y1,y2,y3,y4,y5⟩:=hN.cp.cells;clear hN;go_wp2_with (first|(at_builtin;go_must (refine zar _ (by rfl) (.tmp 66) (.tmp 68) (by rfl) (w.heap.size+1) (u) R.c (Zx L v.n L.length) v _ rfl (by rfl) (zx HN.out.row (λi hi=>Below.heap_alloc _ _ _ (Zw HN.out.row hi).1)) wr.heap.size (by rfl) (zd5 _ _ _ (by simp)) (by omega) (by simp only[size_alloc];omega) ?_);intro g7 cap7 w7 hr7 hg7 ho7 hl7;have HN2:=zH<|HN.out.more _ hr7 hg7;have d0w:=(Zj (HN2.out.bel.block _ hdl) 0).trans HR.out.d0;have fzw:=ze ((HN2.out.bel.block _ hdl).trans HR.out.blk);clear hr7 hg7 ho7 y0 y1 y2 y3 y4 y5 d0));replace HN2:Hid (NwL w R.c (.slice (some ⟨g7,0,none⟩) ((Zx L v.n L.length).length+1) cap7) (zG L v.n ++ [v]) v w7):=by
    show NwL _ _ _ _ _ _;have:=HN2.out;rw[Hall.out] at this ⊢;exact this
   have HP:Hid (Zr R L (zG L v.n ++ [v]) last w (.int .i64 0) (.returned (.int .i64 0)) (w7.setCell ⟨R.d,0,none⟩ (.slice (some ⟨g7,0,none⟩) ((Zx L v.n L.length).length+1) cap7))):=by
    have hkk:zd (λi=>i=R.d) w (w7.setCell ⟨R.d,0,none⟩ (.slice (some ⟨g7,0,none⟩) ((Zx L v.n L.length).length+1) cap7)):=(zd.below (λi=>i=R.d) HN2.out.bel).setCell ⟨R.d,0,none⟩ _ (λ_=>rfl);have hbd:=(HN2.out.bel.block _ hdl).trans HR.out.blk;refine HR.out.relist (zG L v.n ++ [v]) (.slice (some ⟨g7,0,none⟩) ((Zx L v.n L.length).length+1) cap7) (λi hi=>by have:=(HN2.out.row.lt i hi).1;omega) (λu hu=>?_) (zg hbd 0 _) (zd3 (zx HN2.out.row (λi hi=>Below.heap_setCell _ _ _ _ (by have:=(HN2.out.row.lt i hi).1;show i≠R.d;omega))) (by omega)) hkk _;rcases List.mem_append.1 hu with hu|hu
    ·exact⟨u,(Za.1 hu).1,rfl,rfl,rfl,rfl⟩
    ·obtain rfl:u=v:=by simpa using hu
     exact⟨u,List.mem_of_getElem? Hj.out,rfl,rfl,rfl,rfl⟩
   go_ret;exact HP.out
theorem zkR (h1:1<=L.length) (h16:L.length<=16) (w:World) (h:Zq w R L last) (v:Wn) (j:Nat) (hj:L[j]?=some v) (hne2:∀i u,i≠j->L[i]?=some u->u.n≠v.n) (hj0:j≠0):
 Calls Tryz.prog 100 #[.pointer (some ⟨R.d,0,none⟩),.int .i64 v.n,.bool false] w (Zr R L (zdc v (zG L v.n)) last w (.int .i64 0)):=by
 have HR:=zH h;have H:=zH<|zkN h1 h16 w h v j hj (λi u hi=>hne2 i u (by omega)) hj0
 have d0:=h.d0;obtain⟨g,cap,hl,hw,hfz,_⟩:=h.sl h1;rw[hl] at d0;have Hl:=zH hl;obtain⟨c0,c1,c2,c3,c4,c5⟩:=hw j v hj;obtain⟨r,hr⟩:∃r,L[0]?=some r:=⟨_,List.getElem?_eq_getElem (by omega)⟩;obtain⟨r0,r1,r2,r3,r4,r5⟩:=hw 0 r hr;rw[Nat.zero_mul] at r0 r1 r2 r3 r4 r5;have hjl:=(List.getElem?_eq_some_iff.1 hj).1;have hjl':(j:Int)<(L.length:Int):=by omega
 have hjl0:(0:Int)<(L.length:Int):=by omega
 have hrn:=hne2 0 r (λe=>hj0 e.symm) hr;have h2B:=h.two _ (zbp R L);have hdl:=h.lt (zbp R L);have d0a:=Zb d0 (.cells (zdF v (R.c v.n)) 107);replace r0:=Zb r0 (.cells (zdF v (R.c v.n)) 107);replace r1:=Zb r1 (.cells (zdF v (R.c v.n)) 107);replace r2:=Zb r2 (.cells (zdF v (R.c v.n)) 107);replace r3:=Zb r3 (.cells (zdF v (R.c v.n)) 107);replace r4:=Zb r4 (.cells (zdF v (R.c v.n)) 107);replace r5:=Zb r5 (.cells (zdF v (R.c v.n)) 107);have HN0:Hid (NwL w R.c (.slice none 0 0) [] v (w.alloc (.cells (zdF v (R.c v.n)) 107))):=⟨World.ownsRow_nil _ _ _ _,zf w _,(Below.refl _ _).alloc (Nat.le_refl _) _⟩;have Hne2:=zH hne2;have Hj:=zH hj;have Hf1:Hid (Zx L v.n 1=[r]):=by
  show _=_;rw[zdk hr hrn];rfl
 clear h hw hl hj hne2 hr hrn;go_in;go_wp2_with (first|(go_at_call 143;refine sM H.out ?_)|(at_builtin;(refine zar _ (by rfl) (.tmp 39) (.tmp 41) (by rfl) (w.heap.size+1) (.slice (some ⟨g7,0,none⟩) 1 cap7) R.c ([r]) v 1 rfl (by rfl) (zx HN1.out.row (λi hi=>Below.heap_alloc _ _ _ (Zw HN1.out.row hi).1)) w7.heap.size (by rfl) (zd5 _ _ _ (by simp)) (by omega) (by simp only[size_alloc];omega) ?_);intro g8 cap8 w8 hr8 hg8 ho8 hl8)|(at_builtin;go_must (refine zar _ (by rfl) (.tmp 28) (.tmp 35) (by rfl) (w.heap.size+1) (.slice none 0 0) R.c ([]) r 0 rfl (by rfl) (World.ownsRow_nil _ _ _ _) (w.heap.size+1) (by rfl) (zd5 _ _ _ (by simp)) (by omega) (by simp only[size_alloc];omega) ?_);intro g7 cap7 w7 hr7 hg7 ho7 hl7;have HN1:Hid (NwL w R.c (.slice (some ⟨g7,0,none⟩) 1 cap7) [r] v w7):=HN0.out.more _ hr7 hg7;obtain⟨y0,y1,y2,y3,y4,y5⟩:=HN1.out.cp.cells;have z1:=HN1.out.bel.size;clear hr7 hg7 ho7 c0 c1 c2 c3 c4 c5 r0 r1 r2 r3 r4 r5 d0a d0));have HN2:Hid (NwL w R.c (.slice (some ⟨g8,0,none⟩) 2 cap8) [r,v] v w8):=HN1.out.more _ hr8 hg8;clear HN1 hr8 hg8 ho8 y0 y1 y2 y3 y4 y5 z1;go_wp2_with fail;go_loopw[10,11] (λu i w'=>∃k:Nat,1<=k/\k<=L.length/\i=.int .i64 k/\NwL w R.c u (zdc v (Zx L v.n k)) v w') (λ_ i _=>20-(intOf i).toNat)
 case atStart=>exact⟨1,by omega,h1,rfl,by rw[Hf1.out];exact HN2.out⟩
 case round=>
  obtain⟨k,hk1,hkl,rfl,hN⟩:=hrel;generalize u10=u at *;have HN:=zH hN;have hRr:=HR.out.below hN.bel;obtain⟨g',cap',hl',hw',_,_⟩:=hRr.sl h1;obtain⟨rfl,rfl⟩:g=g'/\cap=cap':=by have:=Hl.out.symm.trans hl';simpa using this
  have d0:=hRr.d0;rw[hl'] at d0;have zr:=hN.bel.size;have zc:=hN.cp.lt;by_cases hlt:k<L.length
  ·have hlt':(k:Int)<(L.length:Int):=by omega
   obtain⟨a,ha⟩:∃a,L[k]?=some a:=⟨_,List.getElem?_eq_getElem hlt⟩;by_cases hkj:k=j
   ·subst hkj;obtain rfl:a=v:=by have:=ha.symm.trans Hj.out;injection this
    have HN2:Hid (NwL w R.c u (zdc a (Zx L a.n (k+1))) a wr):=by
     show NwL _ _ _ _ _ _;rw[zgE ha rfl];exact hN
    clear hN hRr hw' hl' ha;go_wp2_with fail;go_roundw
    case rel=>exact⟨k+1,by omega,by omega,by simp,HN2.out⟩
    case measure=>simp[intOf];omega
   ·have hkj':((k:Int)==(j:Int))=false:=by simp;omega
    have hkj2:¬(k:Int)=(j:Int):=by omega
    have Hfk:=zH<|zdk ha (Hne2.out k a hkj ha)
    have hfl:=zd1 L v.n k;obtain⟨c0,c1,c2,c3,c4,c5⟩:=hw' k a ha;have Hfn:Hid (1<=(Zx L v.n k).length):=by
     show 1<=_;have e:(Zx L v.n 1).length<=(Zx L v.n k).length:=by
      unfold Zx zG;exact((List.take_sublist_take_left hk1).filter _).length_le
     rw[Hf1.out] at e;exact e
    have hfl2:(zdc v (Zx L v.n k)).length<=17:=by rw[zhy];omega
    clear hN hRr hw' hl';go_wp2_with (first|(at_builtin;go_must (refine zar _ (by rfl) (.tmp 55) (.tmp 63) (by rfl) (w.heap.size+1) (u) R.c (zdc v (Zx L v.n k)) a _ rfl (by rfl) (zx HN.out.row (λi hi=>Below.heap_alloc _ _ _ (Zw HN.out.row hi).1)) wr.heap.size (by rfl) (zd5 _ _ _ (by simp)) (by omega) (by simp only[size_alloc];omega) ?_);intro g7 cap7 w7 hr7 hg7 ho7 hl7));have HN2:Hid (NwL w R.c (.slice (some ⟨g7,0,none⟩) ((zdc v (Zx L v.n k)).length+1) cap7) (zdc v (Zx L v.n (k+1))) v w7):=by
     show NwL _ _ _ _ _ _;rw[Hfk.out,zn7 v a (λe=>by have:=Hfn.out;rw[e] at this;simp at this)];exact HN.out.more _ hr7 hg7
    clear hr7 hg7 ho7;go_wp2_with fail;go_roundw
    case rel=>exact⟨k+1,by omega,by omega,by simp,HN2.out⟩
    case measure=>simp[intOf];omega
  ·have hlt':¬(k:Int)<(L.length:Int):=by omega
   obtain rfl:k=L.length:=by omega
   have Hall:=zH<|zhz L v.n
   have hfl:=zd1 L v.n L.length;clear hRr hw' hl';have HN2:Hid (NwL w R.c u (zdc v (zG L v.n)) v wr):=by
    show NwL _ _ _ _ _ _;rw[←Hall.out];exact hN
   have fzw:=ze ((hN.bel.block _ hdl).trans HR.out.blk);clear hN HN;obtain⟨gu,cu,rfl⟩:=zam HN2.out.row (by rw[zhy];omega);have HP:Hid (Zr R L (zdc v (zG L v.n)) last w (.int .i64 0) (.returned (.int .i64 0)) (wr.setCell ⟨R.d,0,none⟩ (.slice (some ⟨gu,0,none⟩) (zdc v (zG L v.n)).length cu))):=by
    have hkk:zd (λi=>i=R.d) w (wr.setCell ⟨R.d,0,none⟩ (.slice (some ⟨gu,0,none⟩) (zdc v (zG L v.n)).length cu)):=(zd.below (λi=>i=R.d) HN2.out.bel).setCell ⟨R.d,0,none⟩ _ (λ_=>rfl);have hbd:=(HN2.out.bel.block _ hdl).trans HR.out.blk;refine HR.out.relist (zdc v (zG L v.n)) (.slice (some ⟨gu,0,none⟩) (zdc v (zG L v.n)).length cu) (λi hi=>by have:=(HN2.out.row.lt i hi).1;omega) (λu hu=>?_) (zg hbd 0 _) (zd3 (zx HN2.out.row (λi hi=>Below.heap_setCell _ _ _ _ (by have:=(HN2.out.row.lt i hi).1;show i≠R.d;omega))) (by omega)) hkk _;rcases zp6.1 hu with hu|hu
    ·exact⟨v,List.mem_of_getElem? Hj.out,by rw[hu],by rw[hu],by rw[hu],by rw[hu]⟩
    ·exact⟨u,(Za.1 hu).1,rfl,rfl,rfl,rfl⟩
   go_wp2_with fail;go_ret;exact HP.out
end
end
end Go.Proofs.YtjlfibhbfdckpaaGreatDoor
