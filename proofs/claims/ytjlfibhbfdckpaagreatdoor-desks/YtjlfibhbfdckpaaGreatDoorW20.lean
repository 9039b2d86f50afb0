import Derived.Test.YtjlfibhbfdckpaaGreatDoorW19
import Derived.Deep.DeepCutAuto
namespace Go.Proofs.YtjlfibhbfdckpaaGreatDoor
set_option maxHeartbeats 64000000
set_option maxRecDepth 100000
section
open Go.RowKit
attribute [local go_sem ↓] Go.wp_at_zero Go.wp_at_succ
theorem zok (w:World) (x y:Int):
 Calls Tryz.prog 39 #[.pointer none,.int .i64 x,.int .i64 y] w λe w'=>e=.returned (.tuple #[noC.agg,.int .i64 1])/\Below w.heap.size w w':=by
 go_in;go_wp2_with fail;exact bodyPost_ret (v:=.tuple #[noC.agg,.int .i64 1]) (by simp[results,Tryz.results39,go_sem,noC,Pn.plain]) rfl ⟨rfl,(Below.refl _ _).alloc (Nat.le_refl _) _⟩
section
variable {R:Rm} {L:List Wn} {last:Int}
theorem zqj (nd:(L.map Wn.n).Nodup) {i j:Nat} {a b:Wn} (hi:L[i]?=some a) (hj:L[j]?=some b) (h:a.n=b.n):i=j:=by
 have h1:=(List.getElem?_eq_some_iff.1 hi).1;have h2:=(List.getElem?_eq_some_iff.1 hj).1;have:=List.getElem_inj (i:=i) (j:=j) (h₀:=by simpa using h1) (h₁:=by simpa using h2) nd;exact this.1 (by rw[List.getElem_map,List.getElem_map,(List.getElem?_eq_some_iff.1 hi).2,(List.getElem?_eq_some_iff.1 hj).2,h])
theorem zol (ok:ZK L last) (w:World) (h:Zq w R L last) (r:Wn) (hr:L[0]?=some r) (x y:Int) (hin:inG r.W r.H x y=false):
 Calls Tryz.prog 39 #[.pointer (some ⟨R.d,0,none⟩),.int .i64 x,.int .i64 y] w λe w'=>e=.returned (.tuple #[noC.agg,.int .i64 4])/\Below w.heap.size w w':=by
 have d0:=h.d0;obtain⟨g,cap,hl,hw,hfz,_⟩:=h.sl ok.one;rw[hl] at d0;obtain⟨c0,c1,c2,c3,c4,c5⟩:=hw 0 r hr;rw[Nat.zero_mul] at c0 c1 c2 c3 c4 c5;have hv:=List.mem_of_getElem? hr;have e0:=Zb (h.win r hv).c0 (.cells Z7 38);have e1:=Zb (h.win r hv).c1 (.cells Z7 38);replace d0:=Zb d0 (.cells Z7 38);replace c5:=Zb c5 (.cells Z7 38);have hjl:=ok.one;have hjl':(0:Int)<(L.length:Int):=by omega
 have C2:zv (w.alloc (.cells Z7 38)) w.heap.size 0 noC:=zaq w noC 38;have F2:=ze (zf w (.cells Z7 38));have hb0:Below w.heap.size w (w.alloc (.cells Z7 38)):=(Below.refl _ _).alloc (Nat.le_refl _) _;have P4:=zai (c:=noC) C2;have B4:=((zd.below (λi=>i=w.heap.size) hb0).put7 w.heap.size 0 noC (λh=>rfl)).toBelow (Nat.le_refl _) (λi hi=>by omega);clear h hw hl c0 c1 c2 c3 c4;go_in;go_wp2_with (first|((go_at_call 92;refine sM (zbQ _ _ _ _ _ _ e0 e1) ?_);generalize w.alloc (.cells Z7 38)=wa at *;obtain⟨q0,q1,q2,q3,q4,q5,q6⟩:=C2));change bodyPost _ _ _ _ _ (put7 wa w.heap.size 0 noC);generalize put7 wa w.heap.size 0 noC=w4 at *;clear q0 q1 q2 q3 q4 q5 q6;obtain⟨q0,q1,q2,q3,q4,q5,q6⟩:=P4;refine bodyPost_ret (v:=.tuple #[noC.agg,.int .i64 4]) ?_ rfl ⟨rfl,B4⟩;simp[results,Tryz.results39,go_sem,q0,q1,q2,q3,q4,q5,q6]
theorem zhC {rk:Int->Nat} {K:Nat} (T:ZR L rk K) (ok:ZK L last) (w:World) (h:Zq w R L last) (r:Wn) (hr:L[0]?=some r) (x y:Nat) (hin:inG r.W r.H x y=true):
 Calls Tryz.prog 39 #[.pointer (some ⟨R.d,0,none⟩),.int .i64 x,.int .i64 y] w λe w'=>e=.returned (.tuple #[(zcx L K r x y).agg,.int .i64 0])/\Below w.heap.size w w':=by
 have HT:=zH T;have Hok:=zH ok;have Hin:=zH hin;have hv:=List.mem_of_getElem? hr;have hW:=(h.win r hv).w2;have hH:=(h.win r hv).h2;have hxy:=zu.1 hin;have d0:=h.d0;obtain⟨g,cap,hl,hw,hfz,_⟩:=h.sl ok.one;rw[hl] at d0;have Hl:=zH hl;obtain⟨c0,c1,c2,c3,c4,c5⟩:=hw 0 r hr;rw[Nat.zero_mul] at c0 c1 c2 c3 c4 c5;have e0:=Zb (h.win r hv).c0 (.cells Z7 38);have e1:=Zb (h.win r hv).c1 (.cells Z7 38);replace d0:=Zb d0 (.cells Z7 38);replace c5:=Zb c5 (.cells Z7 38);have hjl:=ok.one;have hjl':(0:Int)<(L.length:Int):=by omega
 have C2:zv (w.alloc (.cells Z7 38)) w.heap.size 0 noC:=zaq w noC 38;have F2:=ze (zf w (.cells Z7 38));have hb0:Below w.heap.size w (w.alloc (.cells Z7 38)):=(Below.refl _ _).alloc (Nat.le_refl _) _;have HRa:=zH<|h.below hb0
 have HB:=zH hb0;have HC:=zH C2;have HF:=zH F2;have l2:=C2.lt;clear h hw hl c0 c1 c2 c3 c4 C2 F2 hb0 T ok;obtain⟨pc,hpc⟩:∃pc,zcx L K r x y=pc:=⟨_,rfl⟩;rw[hpc];have Hpc:=zH hpc.symm;clear hpc;go_in;go_wp2_with (first|(go_at_call 92;refine sM (zbQ _ _ _ _ _ _ e0 e1) ?_));generalize w.alloc (.cells Z7 38)=wa at *;clear e0 e1 d0 c5;go_at_call 93;refine(zjO HT.out Hok.out _ HRa.out r hr x y Hin.out).mono ?_;have hoi:=HT.out.ownIn K r x y hv (by omega) Hin.out;rintro e w1 ⟨j,rfl,hj,b1⟩;have hpd:=Hpc.out;unfold zcx at hpd;obtain⟨⟨o,X,Y⟩,hO⟩:∃q,zaf L K r x y=q:=⟨_,rfl⟩;rw[hO] at hj hoi hpd;simp only[hO];dsimp only at hj hoi hpd;have Hj:=zH hj;have Hpd:Hid (pc=if (o.G X.toNat Y.toNat).p=1 then za6 L K r o (o.G X.toNat Y.toNat) (x+1) y else if (o.G X.toNat Y.toNat).p=2 then za6 L K r o (o.G X.toNat Y.toNat) (x-1) y else o.G X.toNat Y.toNat):=hpd;obtain⟨hoL,hoG⟩:=hoi;have hXY:=zu.1 hoG;have HR1:=zH<|HRa.out.below b1
 have HB1:=zH<|HB.out.trans (b1.mono HB.out.size)
 have HC1:=zH<|HC.out.below b1 l2
 have HF1:=zH<|λo=>(b1.marks l2 o).trans (HF.out o)
 have l3:=HC1.out.lt;obtain⟨g',cap',hl',hw',_,_⟩:=HR1.out.sl Hok.out.one;obtain⟨rfl,rfl⟩:g=g'/\cap=cap':=by have:=Hl.out.symm.trans hl';simpa using this
 have d0:=HR1.out.d0;rw[hl'] at d0;obtain⟨c0,c1,c2,c3,c4,c5⟩:=hw' j o hj;have hjL:=(List.getElem?_eq_some_iff.1 hj).1;have hjL':(j:Int)<(L.length:Int):=by omega
 clear hpd hO hw' hl' b1 HRa HB HC HF l2 hj c0 c1 c2 c3 c4;go_wp2_with fail;go_at_call 94;refine(zeo (R.c o.n) (R.g o.n) (R.cap o.n) o.W o.H _ o.G X Y _ (HR1.out.win o hoL) (by omega) (by omega) (by omega) (by omega)).mono ?_;rintro e w2 ⟨rfl,b2⟩;have hpart:=(HR1.out.wf o hoL).part X.toNat Y.toNat (by omega) (by omega);generalize o.G X.toNat Y.toNat=c at *;have HR2:=zH<|HR1.out.below b2
 have HB2:=zH<|HB1.out.trans (b2.mono HB1.out.size)
 have HC2:=zH<|HC1.out.below b2 l3
 have HF2:=zH<|λo=>(b2.marks l3 o).trans (HF1.out o)
 have l4:=HC2.out.lt;clear HR1 HB1 HC1 HF1 b2 l3 d0 c5 hoG hXY;obtain⟨cr,cp,cn⟩:=c;rcases hpart with⟨hp,_⟩|⟨hp,_⟩|⟨hp,_⟩
 ·dsimp only at hp;subst hp;rename_i hwdc;clear hwdc;have b3:Below w2.heap.size w2 (w2.alloc (.cells (zaG (⟨cr,0,cn⟩:zk)) 38)):=(Below.refl _ _).alloc (Nat.le_refl _) _;have A3:zv (w2.alloc (.cells (zaG (⟨cr,0,cn⟩:zk)) 38)) w2.heap.size 0 (⟨cr,0,cn⟩:zk):=zaq w2 (⟨cr,0,cn⟩:zk) 38;have HC3:=zH<|HC2.out.below b3 l4
  have HF3:=zH<|λo=>(b3.marks l4 o).trans (HF2.out o)
  have HB3:=zH<|HB2.out.trans (b3.mono HB2.out.size)
  have HR3:=zH<|HR2.out.below b3
  obtain⟨a0,a1,a2,a3,a4,a5,a6⟩:=id A3;simp only[Nat.zero_add] at a1 a2 a3 a4 a5 a6;have HA3:=zH A3;have l5:=HC3.out.lt;have l6:=A3.lt;clear HR2 HB2 HC2 HF2 b3 A3;obtain rfl:(⟨cr,0,cn⟩:zk)=pc:=by rw[Hpd.out,if_neg (by simp),if_neg (by simp)]
  go_upto_if 55 with fail;generalize (w2.alloc (.cells (zaG (⟨cr,0,cn⟩:zk)) 38))=w3 at *;clear a0 a1;obtain⟨a0,a1,a2,a3,a4,a5,a6⟩:=HA3.out;simp only[Nat.zero_add] at a1 a2 a3 a4 a5 a6;have HP4:=zH<|zai (c:=(⟨cr,0,cn⟩:zk)) HC3.out
  have HB4:=zH<|((zd.below (λi=>i=w.heap.size) HB3.out).put7 w.heap.size 0 (⟨cr,0,cn⟩:zk) (λh=>rfl)).toBelow (Nat.le_refl _) (λi hi=>by omega)
  obtain⟨q0,q1,q2,q3,q4,q5,q6⟩:=HC3.out;simp only[Nat.zero_add] at q1 q2 q3 q4 q5 q6;have G5:=HF3.out;go_wp2_with fail;change bodyPost _ _ _ _ _ (put7 w3 w.heap.size 0 (⟨cr,0,cn⟩:zk));generalize put7 w3 w.heap.size 0 (⟨cr,0,cn⟩:zk)=w4 at *;clear q0 q1 q2 q3 q4 q5 q6;obtain⟨q0,q1,q2,q3,q4,q5,q6⟩:=HP4.out;simp only[Nat.zero_add] at q1 q2 q3 q4 q5 q6;refine bodyPost_ret (v:=.tuple #[zk.agg (⟨cr,0,cn⟩:zk),.int .i64 0]) ?_ rfl ⟨rfl,HB4.out⟩;simp[results,Tryz.results39,go_sem,q0,q1,q2,q3,q4,q5,q6]
 ·dsimp only at hp;subst hp;rename_i hwdc;clear hwdc;have b3:Below w2.heap.size w2 (w2.alloc (.cells (zaG (⟨cr,1,cn⟩:zk)) 38)):=(Below.refl _ _).alloc (Nat.le_refl _) _;have A3:zv (w2.alloc (.cells (zaG (⟨cr,1,cn⟩:zk)) 38)) w2.heap.size 0 (⟨cr,1,cn⟩:zk):=zaq w2 (⟨cr,1,cn⟩:zk) 38;have HC3:=zH<|HC2.out.below b3 l4
  have HF3:=zH<|λo=>(b3.marks l4 o).trans (HF2.out o)
  have HB3:=zH<|HB2.out.trans (b3.mono HB2.out.size)
  have HR3:=zH<|HR2.out.below b3
  obtain⟨a0,a1,a2,a3,a4,a5,a6⟩:=id A3;simp only[Nat.zero_add] at a1 a2 a3 a4 a5 a6;have HA3:=zH A3;have l5:=HC3.out.lt;have l6:=A3.lt;clear HR2 HB2 HC2 HF2 b3 A3;have Hpp:Hid (pc=za6 L K r o (⟨cr,1,cn⟩:zk) (x+1) y):=by show _=_;rw[Hpd.out,if_pos rfl]
  clear Hpd;unfold za6 at Hpp;obtain⟨g',cap',hl',hw',_,_⟩:=HR3.out.sl Hok.out.one;obtain⟨rfl,rfl⟩:g=g'/\cap=cap':=by have:=Hl.out.symm.trans hl';simpa using this
  have d0:=HR3.out.d0;rw[hl'] at d0;obtain⟨c0,c1,c2,c3,c4,c5⟩:=hw' 0 r hr;rw[Nat.zero_mul] at c0 c1 c2 c3 c4 c5;have e0:=(HR3.out.win r hv).c0;have e1:=(HR3.out.win r hv).c1;have sx:IntKind.i64.wrap ((x:Int)+1)=(x:Int)+1:=zm _ (by omega) (by omega);have sx':IntKind.i64.wrap ((x:Int)+1)=(x:Int)+1:=by rw[show(x:Int)+1=(x:Int)+1 by omega];exact sx
  clear hw' hl' c0 c1 c2 c3 c4;cases hth:inG r.W r.H ((x:Int)+1) y with
  |false=>
   obtain rfl:blk cn=pc:=by rw[Hpp.out,if_neg (by simp[hth])]
   go_wp2_with (first|(go_at_call 92;refine sM (zbQ _ _ _ _ _ _ e0 e1) ?_));generalize (w2.alloc (.cells (zaG (⟨cr,1,cn⟩:zk)) 38))=w3 at *;go_at_call 95;refine(zaj cn _).mono ?_;rintro e w6 ⟨rfl,b6⟩;replace HC3:=zH<|HC3.out.below b6 l5
   replace HF3:=zH<|λo=>(b6.marks l5 o).trans (HF3.out o)
   replace HB3:=zH<|HB3.out.trans (b6.mono HB3.out.size)
   clear b6;have HP4:=zH<|zai (c:=(blk cn)) HC3.out
   have HB4:=zH<|((zd.below (λi=>i=w.heap.size) HB3.out).put7 w.heap.size 0 (blk cn) (λh=>rfl)).toBelow (Nat.le_refl _) (λi hi=>by omega)
   obtain⟨q0,q1,q2,q3,q4,q5,q6⟩:=HC3.out;simp only[Nat.zero_add] at q1 q2 q3 q4 q5 q6;have G5:=HF3.out;go_wp2_with fail;change bodyPost _ _ _ _ _ (put7 w6 w.heap.size 0 (blk cn));generalize put7 w6 w.heap.size 0 (blk cn)=w4 at *;clear q0 q1 q2 q3 q4 q5 q6;obtain⟨q0,q1,q2,q3,q4,q5,q6⟩:=HP4.out;simp only[Nat.zero_add] at q1 q2 q3 q4 q5 q6;refine bodyPost_ret (v:=.tuple #[zk.agg (blk cn),.int .i64 0]) ?_ rfl ⟨rfl,HB4.out⟩;simp[results,Tryz.results39,go_sem,q0,q1,q2,q3,q4,q5,q6]
  |true=>
   go_wp2_with (first|(go_at_call 92;refine sM (zbQ _ _ _ _ _ _ e0 e1) ?_));generalize (w2.alloc (.cells (zaG (⟨cr,1,cn⟩:zk)) 38))=w3 at *;go_at_call 93;refine(zjO HT.out Hok.out _ HR3.out r hr ((x:Int)+1) y hth).mono ?_;rintro e w5 ⟨k,rfl,hk,b5⟩;have HA5:=zH<|HA3.out.below b5 l6
   replace HC3:=zH<|HC3.out.below b5 l5
   replace HF3:=zH<|λo=>(b5.marks l5 o).trans (HF3.out o)
   replace HB3:=zH<|HB3.out.trans (b5.mono HB3.out.size)
   replace l5:=HC3.out.lt;clear a0 a1 a2 a3 a4 a5 a6 HA3 HR3 b5 d0 c5 e0 e1 l6;obtain⟨a0,a1,a2,a3,a4,a5,a6⟩:=HA5.out;simp only[Nat.zero_add] at a1 a2 a3 a4 a5 a6;obtain⟨⟨o',X',Y'⟩,hO'⟩:∃q,zaf L K r ((x:Int)+1) y=q:=⟨_,rfl⟩;rw[hO'] at hk Hpp;simp only[hO'];dsimp only at hk Hpp;clear hO';by_cases hkj:k=j
   ·subst hkj;have hoo:o'=o:=by have:=hk.symm.trans Hj.out;injection this
    obtain rfl:(⟨cr,1,cn⟩:zk)=pc:=by rw[Hpp.out,if_pos ⟨hth,by rw[hoo]⟩]
    clear hk hoo;have HP4:=zH<|zai (c:=(⟨cr,1,cn⟩:zk)) HC3.out
    have HB4:=zH<|((zd.below (λi=>i=w.heap.size) HB3.out).put7 w.heap.size 0 (⟨cr,1,cn⟩:zk) (λh=>rfl)).toBelow (Nat.le_refl _) (λi hi=>by omega)
    obtain⟨q0,q1,q2,q3,q4,q5,q6⟩:=HC3.out;simp only[Nat.zero_add] at q1 q2 q3 q4 q5 q6;have G5:=HF3.out;go_wp2_with fail;change bodyPost _ _ _ _ _ (put7 w5 w.heap.size 0 (⟨cr,1,cn⟩:zk));generalize put7 w5 w.heap.size 0 (⟨cr,1,cn⟩:zk)=w4 at *;clear q0 q1 q2 q3 q4 q5 q6;obtain⟨q0,q1,q2,q3,q4,q5,q6⟩:=HP4.out;simp only[Nat.zero_add] at q1 q2 q3 q4 q5 q6;refine bodyPost_ret (v:=.tuple #[zk.agg (⟨cr,1,cn⟩:zk),.int .i64 0]) ?_ rfl ⟨rfl,HB4.out⟩;simp[results,Tryz.results39,go_sem,q0,q1,q2,q3,q4,q5,q6]
   ·have hkj':((k:Int)==(j:Int))=false:=by simp;omega
    have hkj2:¬(k:Int)=(j:Int):=by omega
    obtain rfl:blk cn=pc:=by rw[Hpp.out,if_neg (λq=>hkj (zqj HT.out.nd hk Hj.out q.2))]
    clear hk;go_wp2_with fail;clear a0 a1 a2 a3 a4 a5 a6;go_at_call 95;refine(zaj cn _).mono ?_;rintro e w6 ⟨rfl,b6⟩;replace HC3:=zH<|HC3.out.below b6 l5
    replace HF3:=zH<|λo=>(b6.marks l5 o).trans (HF3.out o)
    replace HB3:=zH<|HB3.out.trans (b6.mono HB3.out.size)
    clear b6;have HP4:=zH<|zai (c:=(blk cn)) HC3.out
    have HB4:=zH<|((zd.below (λi=>i=w.heap.size) HB3.out).put7 w.heap.size 0 (blk cn) (λh=>rfl)).toBelow (Nat.le_refl _) (λi hi=>by omega)
    obtain⟨q0,q1,q2,q3,q4,q5,q6⟩:=HC3.out;simp only[Nat.zero_add] at q1 q2 q3 q4 q5 q6;have G5:=HF3.out;go_wp2_with fail;change bodyPost _ _ _ _ _ (put7 w6 w.heap.size 0 (blk cn));generalize put7 w6 w.heap.size 0 (blk cn)=w4 at *;clear q0 q1 q2 q3 q4 q5 q6;obtain⟨q0,q1,q2,q3,q4,q5,q6⟩:=HP4.out;simp only[Nat.zero_add] at q1 q2 q3 q4 q5 q6;refine bodyPost_ret (v:=.tuple #[zk.agg (blk cn),.int .i64 0]) ?_ rfl ⟨rfl,HB4.out⟩;simp[results,Tryz.results39,go_sem,q0,q1,q2,q3,q4,q5,q6]
 ·dsimp only at hp;subst hp;rename_i hwdc;clear hwdc;have b3:Below w2.heap.size w2 (w2.alloc (.cells (zaG (⟨cr,2,cn⟩:zk)) 38)):=(Below.refl _ _).alloc (Nat.le_refl _) _;have A3:zv (w2.alloc (.cells (zaG (⟨cr,2,cn⟩:zk)) 38)) w2.heap.size 0 (⟨cr,2,cn⟩:zk):=zaq w2 (⟨cr,2,cn⟩:zk) 38;have HC3:=zH<|HC2.out.below b3 l4
  have HF3:=zH<|λo=>(b3.marks l4 o).trans (HF2.out o)
  have HB3:=zH<|HB2.out.trans (b3.mono HB2.out.size)
  have HR3:=zH<|HR2.out.below b3
  obtain⟨a0,a1,a2,a3,a4,a5,a6⟩:=id A3;simp only[Nat.zero_add] at a1 a2 a3 a4 a5 a6;have HA3:=zH A3;have l5:=HC3.out.lt;have l6:=A3.lt;clear HR2 HB2 HC2 HF2 b3 A3;have Hpp:Hid (pc=za6 L K r o (⟨cr,2,cn⟩:zk) (x-1) y):=by show _=_;rw[Hpd.out,if_neg (by simp),if_pos rfl]
  clear Hpd;unfold za6 at Hpp;obtain⟨g',cap',hl',hw',_,_⟩:=HR3.out.sl Hok.out.one;obtain⟨rfl,rfl⟩:g=g'/\cap=cap':=by have:=Hl.out.symm.trans hl';simpa using this
  have d0:=HR3.out.d0;rw[hl'] at d0;obtain⟨c0,c1,c2,c3,c4,c5⟩:=hw' 0 r hr;rw[Nat.zero_mul] at c0 c1 c2 c3 c4 c5;have e0:=(HR3.out.win r hv).c0;have e1:=(HR3.out.win r hv).c1;have sx:IntKind.i64.wrap ((x:Int)-1)=(x:Int)-1:=zm _ (by omega) (by omega);have sx':IntKind.i64.wrap ((x:Int) + -1)=(x:Int)-1:=by rw[show(x:Int) + -1=(x:Int)-1 by omega];exact sx
  clear hw' hl' c0 c1 c2 c3 c4;cases hth:inG r.W r.H ((x:Int)-1) y with
  |false=>
   obtain rfl:blk cn=pc:=by rw[Hpp.out,if_neg (by simp[hth])]
   go_wp2_with (first|(go_at_call 92;refine sM (zbQ _ _ _ _ _ _ e0 e1) ?_));generalize (w2.alloc (.cells (zaG (⟨cr,2,cn⟩:zk)) 38))=w3 at *;go_at_call 95;refine(zaj cn _).mono ?_;rintro e w6 ⟨rfl,b6⟩;replace HC3:=zH<|HC3.out.below b6 l5
   replace HF3:=zH<|λo=>(b6.marks l5 o).trans (HF3.out o)
   replace HB3:=zH<|HB3.out.trans (b6.mono HB3.out.size)
   clear b6;have HP4:=zH<|zai (c:=(blk cn)) HC3.out
   have HB4:=zH<|((zd.below (λi=>i=w.heap.size) HB3.out).put7 w.heap.size 0 (blk cn) (λh=>rfl)).toBelow (Nat.le_refl _) (λi hi=>by omega)
   obtain⟨q0,q1,q2,q3,q4,q5,q6⟩:=HC3.out;simp only[Nat.zero_add] at q1 q2 q3 q4 q5 q6;have G5:=HF3.out;go_wp2_with fail;change bodyPost _ _ _ _ _ (put7 w6 w.heap.size 0 (blk cn));generalize put7 w6 w.heap.size 0 (blk cn)=w4 at *;clear q0 q1 q2 q3 q4 q5 q6;obtain⟨q0,q1,q2,q3,q4,q5,q6⟩:=HP4.out;simp only[Nat.zero_add] at q1 q2 q3 q4 q5 q6;refine bodyPost_ret (v:=.tuple #[zk.agg (blk cn),.int .i64 0]) ?_ rfl ⟨rfl,HB4.out⟩;simp[results,Tryz.results39,go_sem,q0,q1,q2,q3,q4,q5,q6]
  |true=>
   go_wp2_with (first|(go_at_call 92;refine sM (zbQ _ _ _ _ _ _ e0 e1) ?_));generalize (w2.alloc (.cells (zaG (⟨cr,2,cn⟩:zk)) 38))=w3 at *;go_at_call 93;refine(zjO HT.out Hok.out _ HR3.out r hr ((x:Int)-1) y hth).mono ?_;rintro e w5 ⟨k,rfl,hk,b5⟩;have HA5:=zH<|HA3.out.below b5 l6
   replace HC3:=zH<|HC3.out.below b5 l5
   replace HF3:=zH<|λo=>(b5.marks l5 o).trans (HF3.out o)
   replace HB3:=zH<|HB3.out.trans (b5.mono HB3.out.size)
   replace l5:=HC3.out.lt;clear a0 a1 a2 a3 a4 a5 a6 HA3 HR3 b5 d0 c5 e0 e1 l6;obtain⟨a0,a1,a2,a3,a4,a5,a6⟩:=HA5.out;simp only[Nat.zero_add] at a1 a2 a3 a4 a5 a6;obtain⟨⟨o',X',Y'⟩,hO'⟩:∃q,zaf L K r ((x:Int)-1) y=q:=⟨_,rfl⟩;rw[hO'] at hk Hpp;simp only[hO'];dsimp only at hk Hpp;clear hO';by_cases hkj:k=j
   ·subst hkj;have hoo:o'=o:=by have:=hk.symm.trans Hj.out;injection this
    obtain rfl:(⟨cr,2,cn⟩:zk)=pc:=by rw[Hpp.out,if_pos ⟨hth,by rw[hoo]⟩]
    clear hk hoo;have HP4:=zH<|zai (c:=(⟨cr,2,cn⟩:zk)) HC3.out
    have HB4:=zH<|((zd.below (λi=>i=w.heap.size) HB3.out).put7 w.heap.size 0 (⟨cr,2,cn⟩:zk) (λh=>rfl)).toBelow (Nat.le_refl _) (λi hi=>by omega)
    obtain⟨q0,q1,q2,q3,q4,q5,q6⟩:=HC3.out;simp only[Nat.zero_add] at q1 q2 q3 q4 q5 q6;have G5:=HF3.out;go_wp2_with fail;change bodyPost _ _ _ _ _ (put7 w5 w.heap.size 0 (⟨cr,2,cn⟩:zk));generalize put7 w5 w.heap.size 0 (⟨cr,2,cn⟩:zk)=w4 at *;clear q0 q1 q2 q3 q4 q5 q6;obtain⟨q0,q1,q2,q3,q4,q5,q6⟩:=HP4.out;simp only[Nat.zero_add] at q1 q2 q3 q4 q5 q6;refine bodyPost_ret (v:=.tuple #[zk.agg (⟨cr,2,cn⟩:zk),.int .i64 0]) ?_ rfl ⟨rfl,HB4.out⟩;simp[results,Tryz.results39,go_sem,q0,q1,q2,q3,q4,q5,q6]
   ·have hkj':((k:Int)==(j:Int))=false:=by simp;omega
    have hkj2:¬(k:Int)=(j:Int):=by omega
    obtain rfl:blk cn=pc:=by rw[Hpp.out,if_neg (λq=>hkj (zqj HT.out.nd hk Hj.out q.2))]
    clear hk;go_wp2_with fail;clear a0 a1 a2 a3 a4 a5 a6;go_at_call 95;refine(zaj cn _).mono ?_;rintro e w6 ⟨rfl,b6⟩;replace HC3:=zH<|HC3.out.below b6 l5
    replace HF3:=zH<|λo=>(b6.marks l5 o).trans (HF3.out o)
    replace HB3:=zH<|HB3.out.trans (b6.mono HB3.out.size)
    clear b6;have HP4:=zH<|zai (c:=(blk cn)) HC3.out
    have HB4:=zH<|((zd.below (λi=>i=w.heap.size) HB3.out).put7 w.heap.size 0 (blk cn) (λh=>rfl)).toBelow (Nat.le_refl _) (λi hi=>by omega)
    obtain⟨q0,q1,q2,q3,q4,q5,q6⟩:=HC3.out;simp only[Nat.zero_add] at q1 q2 q3 q4 q5 q6;have G5:=HF3.out;go_wp2_with fail;change bodyPost _ _ _ _ _ (put7 w6 w.heap.size 0 (blk cn));generalize put7 w6 w.heap.size 0 (blk cn)=w4 at *;clear q0 q1 q2 q3 q4 q5 q6;obtain⟨q0,q1,q2,q3,q4,q5,q6⟩:=HP4.out;simp only[Nat.zero_add] at q1 q2 q3 q4 q5 q6;refine bodyPost_ret (v:=.tuple #[zk.agg (blk cn),.int .i64 0]) ?_ rfl ⟨rfl,HB4.out⟩;simp[results,Tryz.results39,go_sem,q0,q1,q2,q3,q4,q5,q6]
end
end
section
theorem zkQ (a:UInt8) (h:128<=a.toNat):(zQ a.toNat=0/\(a.toNat<194\/244<a.toNat))\/(zQ a.toNat=2/\194<=a.toNat/\a.toNat<=223)\/(zQ a.toNat=3/\224<=a.toNat/\a.toNat<=239)\/(zQ a.toNat=4/\240<=a.toNat/\a.toNat<=244):=by
 unfold zQ;have:=a.toNat_lt
 repeat' split
 all_goals omega
def zdq (n:Nat) (b0 b1 b2 b3:Nat):Nat × Nat:=
 if b0<128 then(b0,1)
 else if 1<n/\b0/32=6/\b1/64=2 then(if 128<=(b0%32)*64+b1%64 then((b0%32)*64+b1%64,2) else(65533,1))
 else if 2<n/\b0/16=14/\b1/64=2/\b2/64=2 then(if 2048<=(b0%16)*4096+(b1%64)*64+b2%64/\¬(55296<=(b0%16)*4096+(b1%64)*64+b2%64/\(b0%16)*4096+(b1%64)*64+b2%64<57344) then((b0%16)*4096+(b1%64)*64+b2%64,3) else(65533,1))
 else if 3<n/\b0/8=30/\b1/64=2/\b2/64=2/\b3/64=2 then(if 65536<=(b0%8)*262144+(b1%64)*4096+(b2%64)*64+b3%64/\(b0%8)*262144+(b1%64)*4096+(b2%64)*64+b3%64<1114112 then((b0%8)*262144+(b1%64)*4096+(b2%64)*64+b3%64,4) else(65533,1))
 else(65533,1)
theorem zgH (s:ByteArray) (i:Nat):Utf8.decode s i=zdq (s.size-i) (s.get! i).toNat (s.get! (i+1)).toNat (s.get! (i+2)).toNat (s.get! (i+3)).toNat:=by
 have e1:(i+1<s.size)↔1<s.size-i:=by omega
 have e2:(i+2<s.size)↔2<s.size-i:=by omega
 have e3:(i+3<s.size)↔3<s.size-i:=by omega
 obtain⟨b0,hb0⟩:∃b,(s.get! i).toNat=b:=⟨_,rfl⟩;obtain⟨b1,hb1⟩:∃b,(s.get! (i+1)).toNat=b:=⟨_,rfl⟩;obtain⟨b2,hb2⟩:∃b,(s.get! (i+2)).toNat=b:=⟨_,rfl⟩;obtain⟨b3,hb3⟩:∃b,(s.get! (i+3)).toNat=b:=⟨_,rfl⟩;obtain⟨n,hn⟩:∃n,s.size-i=n:=⟨_,rfl⟩;simp only[Utf8.decode,Nat.add_zero,e1,e2,e3,hb0,hb1,hb2,hb3,hn];clear e1 e2 e3 hb0 hb1 hb2 hb3 hn;unfold zdq;by_cases h0:b0<128
 ·rw[if_pos h0,if_pos h0]
 rw[if_neg h0,if_neg h0];have c1:((b0/32==6&&(decide (1<n)&&b1/64==2))=true)↔(1<n/\b0/32=6/\b1/64=2):=by simp;omega
 have c2:((b0/16==14&&(decide (1<n)&&b1/64==2)&&(decide (2<n)&&b2/64==2))=true)↔(2<n/\b0/16=14/\b1/64=2/\b2/64=2):=by simp;omega
 have c3:((b0/8==30&&(decide (1<n)&&b1/64==2)&&(decide (2<n)&&b2/64==2)&&(decide (3<n)&&b3/64==2))=true)↔(3<n/\b0/8=30/\b1/64=2/\b2/64=2/\b3/64=2):=by simp;omega
 have hre:Utf8.runeError=65533:=rfl;have v3:∀c:Nat,((decide (c ≥ 2048)&&Utf8.valid c)=true)↔(2048<=c/\¬(55296<=c/\c<57344)/\c<1114112):=λc=>by unfold Utf8.valid;simp only[Bool.and_eq_true,Bool.or_eq_true,decide_eq_true_eq];omega
 have v4:∀c:Nat,((decide (c ≥ 65536)&&Utf8.valid c)=true)↔(65536<=c/\c<1114112):=λc=>by unfold Utf8.valid;simp only[Bool.and_eq_true,Bool.or_eq_true,decide_eq_true_eq];omega
 simp only[c1,c2,c3,hre,v3,v4];by_cases d1:1<n/\b0/32=6/\b1/64=2
 ·rw[if_pos d1,if_pos d1]
 rw[if_neg d1,if_neg d1];by_cases d2:2<n/\b0/16=14/\b1/64=2/\b2/64=2
 ·rw[if_pos d2,if_pos d2];have e:∀c:Nat,c<1114112->((2048<=c/\¬(55296<=c/\c<57344)/\c<1114112)↔(2048<=c/\¬(55296<=c/\c<57344))):=λc h=>by omega
  simp only[e _ (by omega:b0%16*4096+b1%64*64+b2%64<1114112)]
 rw[if_neg d2,if_neg d2]
theorem zom {n b0 b1 b2 b3:Nat} (h:b0<128):zdq n b0 b1 b2 b3=(b0,1):=by unfold zdq;rw[if_pos h]
theorem zqk {n b0 b1 b2 b3:Nat} (h:128<=b0) (h2:b0<194\/244<b0) (h3:b0<256):zdq n b0 b1 b2 b3=(65533,1):=by
 unfold zdq
 repeat' split
 all_goals first|rfl|(exfalso;omega)
theorem zhD {n b0 b1 b2 b3:Nat} (h:194<=b0) (h2:b0<=223) (h3:n<2\/b1<128\/191<b1):zdq n b0 b1 b2 b3=(65533,1):=by
 unfold zdq
 repeat' split
 all_goals first|rfl|(exfalso;omega)
theorem zsp {n b0 b1 b2 b3:Nat} (h:194<=b0) (h2:b0<=223) (h3:2<=n) (h4:128<=b1) (h5:b1<=191):zdq n b0 b1 b2 b3=(64*(b0-192)+(b1-128),2):=by
 unfold zdq;rw[if_neg (by omega),if_pos (by omega),if_pos (by omega)];exact congrArg (·,2) (by omega)
theorem zfn {n b0 b1 b2 b3:Nat} (h:224<=b0) (h2:b0<=239) (h3:n<3\/b1<(if b0=224 then 160 else 128)\/(if b0=237 then 159 else 191)<b1\/b2<128\/191<b2):zdq n b0 b1 b2 b3=(65533,1):=by
 unfold zdq;rw[if_neg (by omega),if_neg (by omega)];split
 ·rw[if_neg];split at h3<;>split at h3<;>omega
 ·rw[if_neg (by omega)]
theorem zon {n b0 b1 b2 b3:Nat} (h:224<=b0) (h2:b0<=239) (h3:3<=n) (h4:(if b0=224 then 160 else 128)<=b1) (h5:b1<=(if b0=237 then 159 else 191)) (h6:128<=b2) (h7:b2<=191):zdq n b0 b1 b2 b3=(4096*(b0-224)+64*(b1-128)+(b2-128),3):=by
 unfold zdq;have a:b1/64=2:=by split at h4<;>split at h5<;>omega
 rw[if_neg (by omega),if_neg (by omega),if_pos (by omega),if_pos]
 ·exact congrArg (·,3) (by omega)
 ·split at h4<;>split at h5<;>omega
theorem zd4 {n b0 b1 b2 b3:Nat} (h:240<=b0) (h2:b0<=244) (h3:n<4\/b1<(if b0=240 then 144 else 128)\/(if b0=244 then 143 else 191)<b1\/b2<128\/191<b2\/b3<128\/191<b3):zdq n b0 b1 b2 b3=(65533,1):=by
 unfold zdq;rw[if_neg (by omega),if_neg (by omega),if_neg (by omega)];split
 ·rw[if_neg];split at h3<;>split at h3<;>omega
 ·rfl
theorem zql {n b0 b1 b2 b3:Nat} (h:240<=b0) (h2:b0<=244) (h3:4<=n) (h4:(if b0=240 then 144 else 128)<=b1) (h5:b1<=(if b0=244 then 143 else 191)) (h6:128<=b2) (h7:b2<=191) (h8:128<=b3) (h9:b3<=191):zdq n b0 b1 b2 b3=(262144*(b0-240)+4096*(b1-128)+64*(b2-128)+(b3-128),4):=by
 unfold zdq;have a:b1/64=2:=by split at h4<;>split at h5<;>omega
 rw[if_neg (by omega),if_neg (by omega),if_neg (by omega),if_pos (by omega),if_pos]
 ·exact congrArg (·,4) (by omega)
 ·split at h4<;>split at h5<;>omega
end
section
open Go.RowKit
theorem zfK (c:Int) (w:World) (c0:0<=c) (c1:c<=255):
 Calls Tryz.prog 134 #[.int .u8 c] w λe w'=>e=.returned (.int .i64 (zQ c))/\w'=w:=by
 rcases(by omega:c<194\/(194<=c/\c<=223)\/(224<=c/\c<=239)\/(240<=c/\c<=244)\/245<=c) with h|⟨h,h'⟩|⟨h,h'⟩|⟨h,h'⟩|h
 ·rw[show zQ c=0 from by unfold zQ;rw[if_neg (by omega),if_neg (by omega),if_neg (by omega)]];go_in;go_wp2;go_ret;exact⟨rfl,rfl⟩
 ·rw[show zQ c=2 from by unfold zQ;rw[if_pos (by omega)]];go_in;go_wp2;go_ret;exact⟨rfl,rfl⟩
 ·rw[show zQ c=3 from by unfold zQ;rw[if_neg (by omega),if_pos (by omega)]];go_in;go_wp2;go_ret;exact⟨rfl,rfl⟩
 ·rw[show zQ c=4 from by unfold zQ;rw[if_neg (by omega),if_neg (by omega),if_pos (by omega)]];go_in;go_wp2;go_ret;exact⟨rfl,rfl⟩
 ·rw[show zQ c=0 from by unfold zQ;rw[if_neg (by omega),if_neg (by omega),if_neg (by omega)]];go_in;go_wp2;go_ret;exact⟨rfl,rfl⟩
theorem zhE (a:UInt8) (c:Int) (w:World) (c0:0<=c) (c1:c<=255):
 Calls Tryz.prog 135 #[.string ⟨#[a]⟩,.int .u8 c] w λe w'=>e=.returned (.bool (zq [a] c))/\w'=w:=by
 have ha:a.toNat<256:=a.toNat_lt;have e0:(({data:=#[a]}:ByteArray)[0]'(Nat.one_pos)).toNat=a.toNat:=rfl;rcases(by omega:(a.toNat:Int)=224\/(a.toNat:Int)=237\/(a.toNat:Int)=240\/(a.toNat:Int)=244\/((a.toNat:Int)≠224/\(a.toNat:Int)≠237/\(a.toNat:Int)≠240/\(a.toNat:Int)≠244)) with q|q|q|q|⟨q1,q2,q3,q4⟩
 ·have hg:zq [a] c=(decide (160<=c)&&decide (c<=191)):=by simp only[zq,zbb,Z6,q];simp
  rw[hg];clear hg;rcases(by omega:c<160\/(160<=c/\c<=191)\/191<c) with h|⟨h,h'⟩|h
  ·rw[show(decide (160<=c)&&decide (c<=191))=false from by simp;omega];go_in;go_wp2;go_ret;exact⟨by first|rfl|(simp;omega),rfl⟩
  ·rw[show(decide (160<=c)&&decide (c<=191))=true from by simp;omega];go_in;go_wp2;go_ret;exact⟨by first|rfl|(simp;omega),rfl⟩
  ·rw[show(decide (160<=c)&&decide (c<=191))=false from by simp;omega];go_in;go_wp2;go_ret;exact⟨by first|rfl|(simp;omega),rfl⟩
 ·have hg:zq [a] c=(decide (128<=c)&&decide (c<=159)):=by simp only[zq,zbb,Z6,q];simp
  rw[hg];clear hg;rcases(by omega:c<128\/(128<=c/\c<=159)\/159<c) with h|⟨h,h'⟩|h
  ·rw[show(decide (128<=c)&&decide (c<=159))=false from by simp;omega];go_in;go_wp2;go_ret;exact⟨by first|rfl|(simp;omega),rfl⟩
  ·rw[show(decide (128<=c)&&decide (c<=159))=true from by simp;omega];go_in;go_wp2;go_ret;exact⟨by first|rfl|(simp;omega),rfl⟩
  ·rw[show(decide (128<=c)&&decide (c<=159))=false from by simp;omega];go_in;go_wp2;go_ret;exact⟨by first|rfl|(simp;omega),rfl⟩
 ·have hg:zq [a] c=(decide (144<=c)&&decide (c<=191)):=by simp only[zq,zbb,Z6,q];simp
  rw[hg];clear hg;rcases(by omega:c<144\/(144<=c/\c<=191)\/191<c) with h|⟨h,h'⟩|h
  ·rw[show(decide (144<=c)&&decide (c<=191))=false from by simp;omega];go_in;go_wp2;go_ret;exact⟨by first|rfl|(simp;omega),rfl⟩
  ·rw[show(decide (144<=c)&&decide (c<=191))=true from by simp;omega];go_in;go_wp2;go_ret;exact⟨by first|rfl|(simp;omega),rfl⟩
  ·rw[show(decide (144<=c)&&decide (c<=191))=false from by simp;omega];go_in;go_wp2;go_ret;exact⟨by first|rfl|(simp;omega),rfl⟩
 ·have hg:zq [a] c=(decide (128<=c)&&decide (c<=143)):=by simp only[zq,zbb,Z6,q];simp
  rw[hg];clear hg;rcases(by omega:c<128\/(128<=c/\c<=143)\/143<c) with h|⟨h,h'⟩|h
  ·rw[show(decide (128<=c)&&decide (c<=143))=false from by simp;omega];go_in;go_wp2;go_ret;exact⟨by first|rfl|(simp;omega),rfl⟩
  ·rw[show(decide (128<=c)&&decide (c<=143))=true from by simp;omega];go_in;go_wp2;go_ret;exact⟨by first|rfl|(simp;omega),rfl⟩
  ·rw[show(decide (128<=c)&&decide (c<=143))=false from by simp;omega];go_in;go_wp2;go_ret;exact⟨by first|rfl|(simp;omega),rfl⟩
 ·have hg:zq [a] c=(decide (128<=c)&&decide (c<=191)):=by simp only[zq,zbb,Z6,q1,q2,q3,q4,if_false]
  rw[hg];clear hg;have b1:((a.toNat:Int)==224)=false:=by simpa using q1
  have b2:((a.toNat:Int)==237)=false:=by simpa using q2
  have b3:((a.toNat:Int)==240)=false:=by simpa using q3
  have b4:((a.toNat:Int)==244)=false:=by simpa using q4
  clear q1 q2 q3 q4;rcases(by omega:c<128\/(128<=c/\c<=191)\/191<c) with h|⟨h,h'⟩|h
  ·rw[show(decide (128<=c)&&decide (c<=191))=false from by simp;omega];go_in;go_wp2;go_ret;exact⟨by first|rfl|(simp;omega),rfl⟩
  ·rw[show(decide (128<=c)&&decide (c<=191))=true from by simp;omega];go_in;go_wp2;go_ret;exact⟨by first|rfl|(simp;omega),rfl⟩
  ·rw[show(decide (128<=c)&&decide (c<=191))=false from by simp;omega];go_in;go_wp2;go_ret;exact⟨by first|rfl|(simp;omega),rfl⟩
theorem zhF (a b:UInt8) (c:Int) (w:World) (c0:0<=c) (c1:c<=255):
 Calls Tryz.prog 135 #[.string ⟨#[a,b]⟩,.int .u8 c] w λe w'=>e=.returned (.bool (zq [a,b] c))/\w'=w:=by
 have hg:zq [a,b] c=(decide (128<=c)&&decide (c<=191)):=rfl;rw[hg];clear hg;rcases(by omega:c<128\/(128<=c/\c<=191)\/191<c) with h|⟨h,h'⟩|h
 ·rw[show(decide (128<=c)&&decide (c<=191))=false from by simp;omega];go_in;go_wp2;go_ret;exact⟨by first|rfl|(simp;omega),rfl⟩
 ·rw[show(decide (128<=c)&&decide (c<=191))=true from by simp;omega];go_in;go_wp2;go_ret;exact⟨by first|rfl|(simp;omega),rfl⟩
 ·rw[show(decide (128<=c)&&decide (c<=191))=false from by simp;omega];go_in;go_wp2;go_ret;exact⟨by first|rfl|(simp;omega),rfl⟩
theorem zhG (a b d:UInt8) (c:Int) (w:World) (c0:0<=c) (c1:c<=255):
 Calls Tryz.prog 135 #[.string ⟨#[a,b,d]⟩,.int .u8 c] w λe w'=>e=.returned (.bool (zq [a,b,d] c))/\w'=w:=by
 have hg:zq [a,b,d] c=(decide (128<=c)&&decide (c<=191)):=rfl;rw[hg];clear hg;rcases(by omega:c<128\/(128<=c/\c<=191)\/191<c) with h|⟨h,h'⟩|h
 ·rw[show(decide (128<=c)&&decide (c<=191))=false from by simp;omega];go_in;go_wp2;go_ret;exact⟨by first|rfl|(simp;omega),rfl⟩
 ·rw[show(decide (128<=c)&&decide (c<=191))=true from by simp;omega];go_in;go_wp2;go_ret;exact⟨by first|rfl|(simp;omega),rfl⟩
 ·rw[show(decide (128<=c)&&decide (c<=191))=false from by simp;omega];go_in;go_wp2;go_ret;exact⟨by first|rfl|(simp;omega),rfl⟩
theorem zhH (a b:UInt8) (w:World) (h1:194<=a.toNat) (h2:a.toNat<=223) (l1:128<=b.toNat) (u1:b.toNat<=191):
 Calls Tryz.prog 136 #[.string ⟨#[a,b]⟩] w λe w'=>e=.returned (.int .i32 (Zn [a,b]))/\w'=w:=by
 have e0:(({data:=#[a,b]}:ByteArray)[0]'(show 0<2 by decide)).toNat=a.toNat:=rfl;have e1:(({data:=#[a,b]}:ByteArray)[1]'(show 1<2 by decide)).toNat=b.toNat:=rfl;go_in;go_wp2_with fail;refine wp_loop_rounds 2 ?_;rw[rounds_succ];go_wp2_with fail;rw[rounds_succ];go_wp2_with fail;go_ret;exact⟨rfl,rfl⟩
theorem zhI (a b c:UInt8) (w:World) (h1:224<=a.toNat) (h2:a.toNat<=239) (l1:128<=b.toNat) (u1:b.toNat<=191) (l2:128<=c.toNat) (u2:c.toNat<=191):
 Calls Tryz.prog 136 #[.string ⟨#[a,b,c]⟩] w λe w'=>e=.returned (.int .i32 (Zn [a,b,c]))/\w'=w:=by
 have e0:(({data:=#[a,b,c]}:ByteArray)[0]'(show 0<3 by decide)).toNat=a.toNat:=rfl;have e1:(({data:=#[a,b,c]}:ByteArray)[1]'(show 1<3 by decide)).toNat=b.toNat:=rfl;have e2:(({data:=#[a,b,c]}:ByteArray)[2]'(show 2<3 by decide)).toNat=c.toNat:=rfl;go_in;go_wp2_with fail;refine wp_loop_rounds 3 ?_;rw[rounds_succ];go_wp2_with fail;rw[rounds_succ];go_wp2_with fail;rw[rounds_succ];go_wp2_with fail;go_ret;exact⟨rfl,rfl⟩
theorem zhJ (a b c d:UInt8) (w:World) (h1:240<=a.toNat) (h2:a.toNat<=244) (l1:128<=b.toNat) (u1:b.toNat<=191) (l2:128<=c.toNat) (u2:c.toNat<=191) (l3:128<=d.toNat) (u3:d.toNat<=191):
 Calls Tryz.prog 136 #[.string ⟨#[a,b,c,d]⟩] w λe w'=>e=.returned (.int .i32 (Zn [a,b,c,d]))/\w'=w:=by
 have e0:(({data:=#[a,b,c,d]}:ByteArray)[0]'(show 0<4 by decide)).toNat=a.toNat:=rfl;have e1:(({data:=#[a,b,c,d]}:ByteArray)[1]'(show 1<4 by decide)).toNat=b.toNat:=rfl;have e2:(({data:=#[a,b,c,d]}:ByteArray)[2]'(show 2<4 by decide)).toNat=c.toNat:=rfl;have e3:(({data:=#[a,b,c,d]}:ByteArray)[3]'(show 3<4 by decide)).toNat=d.toNat:=rfl;go_in;go_wp2_with fail;refine wp_loop_rounds 4 ?_;rw[rounds_succ];go_wp2_with fail;rw[rounds_succ];go_wp2_with fail;rw[rounds_succ];go_wp2_with fail;rw[rounds_succ];go_wp2_with fail;go_ret;exact⟨rfl,rfl⟩
end
section
open Go.RowKit
open Wd (wd)
attribute [local go_sem ↓] Go.wp_at_zero Go.wp_at_succ
theorem zjP (s:ByteArray) (i n:Nat) (l:List UInt8) (hl:l.length=n) (_h:i+n<=s.size) (hv:∀k (hk:k<n),s[i+k]?=some (l[k]'(by omega))):s.extract i (i+n)=⟨l.toArray⟩:=by
 apply ByteArray.ext;rw[ByteArray.data_extract];apply Array.toList_inj.1;have hs:s.data.toList.length=s.size:=rfl;rw[Array.toList_extract,List.extract_eq_take_drop,show i+n-i=n by omega];apply List.ext_getElem?;intro k;by_cases hk:k<n
 ·rw[List.getElem?_take_of_lt hk,List.getElem?_drop];have:=hv k hk;have e:s[i+k]?=s.data.toList[i+k]?:=by
   rw[Array.getElem?_toList];rfl
  rw[←e,this];simp[hl,hk]
 ·rw[List.getElem?_eq_none (by simp;omega),List.getElem?_eq_none (by simp;omega)]
theorem zsq (s:ByteArray) (i:Nat) (h:i<s.size):s.extract i (i+1)=⟨#[s[i]]⟩:=by
 refine zjP s i 1 [s[i]] rfl (by omega) (λk hk=>?_);obtain rfl:k=0:=by omega
 simp[getElem?_pos,h]
theorem zui (s:ByteArray) (i:Nat) (h:i+1<s.size):s.extract i (i+2)=⟨#[s[i],s[i+1]]⟩:=by
 refine zjP s i 2 [s[i],s[i+1]] rfl (by omega) (λk hk=>?_);match k,hk with
 |0,_=>simp[getElem?_pos,show i<s.size by omega]
 |1,_=>simp[getElem?_pos,h]
theorem zvI (s:ByteArray) (i:Nat) (h:i+2<s.size):s.extract i (i+3)=⟨#[s[i],s[i+1],s[i+2]]⟩:=by
 refine zjP s i 3 [s[i],s[i+1],s[i+2]] rfl (by omega) (λk hk=>?_);match k,hk with
 |0,_=>simp[getElem?_pos,show i<s.size by omega]
 |1,_=>simp[getElem?_pos,show i+1<s.size by omega]
 |2,_=>simp[getElem?_pos,h]
theorem zwF (s:ByteArray) (i:Nat) (h:i+3<s.size):s.extract i (i+4)=⟨#[s[i],s[i+1],s[i+2],s[i+3]]⟩:=by
 refine zjP s i 4 [s[i],s[i+1],s[i+2],s[i+3]] rfl (by omega) (λk hk=>?_);match k,hk with
 |0,_=>simp[getElem?_pos,show i<s.size by omega]
 |1,_=>simp[getElem?_pos,show i+1<s.size by omega]
 |2,_=>simp[getElem?_pos,show i+2<s.size by omega]
 |3,_=>simp[getElem?_pos,h]
theorem zc4 (s:ByteArray) (i:Nat) (h:i<s.size):s.get! i=s[i]:=by
 unfold ByteArray.get!;exact getElem!_pos s.data i h
theorem zhK:(Tryz.prog.info? 21).bind (·.zero)=some (.int .i32 0):=by kernel_rfl
theorem zhL:(Tryz.prog.info? 21).map (·.size)=some 1:=by kernel_rfl
theorem zgW:(Tryz.prog.info? 21).map (·.bytes)=some 4:=by kernel_rfl
theorem zoo:∃i:TypeInfo,Tryz.prog.info? 21=some i/\i.zero=some (.int .i32 0)/\i.size=1/\i.bytes=4:=by
 have h1:=zhK;have h2:=zhL;have h3:=zgW;cases h:Tryz.prog.info? 21 with
 |none=>rw[h] at h2;simp at h2
 |some i=>rw[h] at h1 h2 h3;exact⟨i,rfl,by simpa using h1,by simpa using h2,by simpa using h3⟩
def zbM (l:List Int):List Value:=l.map (Value.int .i32)
theorem zf7 {ops:Array Oper} {rest:List Oper} {o:Oper} {a:Act} {Q:Exit->Act->World->Prop} (w:World) (hgd:o.guard=none) (s x:Operand)
 (ho:o.op=.call {callee:=.builtin .append,args:=#[s,x],argTypes:=#[63,63]}) (base:Nat) (v:Value) (l:List Int) (c:Int) (k:Nat) (hk:l.length=k) (hs:a.eval s=v)
 (hown:w.ownsRow base 21 1 v k (zbM l)) (b:Nat) (hx:a.eval x=.slice (some ⟨b,0,none⟩) 1 1) (hb:w.heap[b]?=some (.cells #[.int .i32 c] 21)) (hL:k<=1000000000000) (hbase:base<=w.heap.size)
 (h:∀g cap w',w'.ownsRow base 21 1 (.slice (some ⟨g,0,none⟩) (k+1) cap) (k+1) (zbM (l ++ [c]))->w.grownBy w' v.ownBlock->(v.ownBlock=some g\/g=w.heap.size)->g<w'.heap.size->wpList Tryz.prog ops Q rest (a.put o.dst (.slice (some ⟨g,0,none⟩) (k+1) cap)) w'):
 wpList Tryz.prog ops Q (o::rest) a w:=by
 obtain⟨ti,i1,i2,i3,i4⟩:=zoo;refine wpList_append_lies w hgd s x 63 ho base 21 ti _ 1 4 Tryz.underlying63 i1 i2 i3 i4 rfl (by decide) v k (zbM l) hs hown ⟨b,0,none⟩ 1 1 [.int .i32 c] hx rfl (World.news_of_block hb) (by simp[Value.oneCell']) (by decide) (by unfold maxLen;omega) (by omega) hbase w.heap.size rfl ?_;intro g cap w' h1 h2 h3 h4;have e:zbM l ++ [.int .i32 c]=zbM (l ++ [c]):=by simp[zbM]
 rw[e] at h1;exact h g cap w' h1 h2 h3 h4
theorem zop {w:World} {base g n cap:Nat} {l:List Int} {t:TypeId} (h:w.ownsRow base t 1 (.slice (some ⟨g,0,none⟩) n cap) n (zbM l)) (i:Nat) (c:Int) (hi:l[i]?=some c):w.cell? ⟨g,i,none⟩=some (.int .i32 c):=by
 obtain⟨hl,h|⟨g',cap',cur,hv,hb,hg,hn,hm,hs,ht⟩⟩:=h
 ·simp at h
 ·obtain⟨rfl,rfl⟩:g=g'/\cap=cap':=by simpa using hv
  have hil:=(List.getElem?_eq_some_iff.1 hi).1;have hll:(zbM l).length=l.length:=by simp[zbM]
  rw[za hg];have e:(zbM l)[i]?=some (.int .i32 c):=by unfold zbM;rw[List.getElem?_map,hi];rfl
  rw[←ht,List.getElem?_take_of_lt (by omega),Array.getElem?_toList] at e;exact e
structure Let (s:ByteArray) (w:World) (u:Value) (pos f:Nat) (rs:List Int) (w':World):Prop where
 le:pos<=s.size
 row:w'.ownsRow w.heap.size 21 1 u rs.length (zbM rs)
 all:rs++Zh s f pos=Zh s s.size 0
 fuel:s.size<=pos+f
 short:rs.length<=pos
 bel:Below w.heap.size w w'
def znp (r:Int):Int:=if wd r=0 then 65533 else r
theorem Let.step {s:ByteArray} {w w' w2:World} {u u2:Value} {pos f:Nat} {rs:List Int} (h:Let s w u pos f rs w') (hlt:pos<s.size) {r:Int} {n:Nat} (hd:((Utf8.decode s pos).1:Int)=r/\(Utf8.decode s pos).2=n)
 (hr:w2.ownsRow w.heap.size 21 1 u2 (rs.length+1) (zbM (rs ++ [znp r]))) (hb:Below w.heap.size w w2) (hn:pos+n<=s.size):∃f' rs',Let s w u2 (pos+n) f' rs' w2:=by
 obtain⟨f,rfl⟩:∃f',f=f'+1:=⟨f-1,by have:=h.fuel;omega⟩;have hn1:=ziM s pos hlt;rw[hd.2] at hn1;have e:=h.all;rw[zgC s f hlt,hd.1,hd.2] at e;refine⟨f,rs ++ [znp r],hn,by rw[List.length_append];exact hr,?_,by have:=h.fuel;omega,by rw[List.length_append];have:=h.short;simp;omega,hb⟩;rw[List.append_assoc];exact e
theorem zb1 (s:ByteArray) (pos n b0 b1 b2 b3:Nat) (hn:s.size-pos=n) (h0:(s.get! pos).toNat=b0) (h1:(s.get! (pos+1)).toNat=b1) (h2:(s.get! (pos+2)).toNat=b2) (h3:(s.get! (pos+3)).toNat=b3):Utf8.decode s pos=zdq n b0 b1 b2 b3:=by
 rw[zgH,hn,h0,h1,h2,h3]
end
end Go.Proofs.YtjlfibhbfdckpaaGreatDoor
