import Derived.Test.YtjlfibhbfdckpaaGreatDoorW22
import Derived.Lib.Join
import Derived.Lib.ItoaNum
namespace Go.Proofs.YtjlfibhbfdckpaaGreatDoor
set_option maxHeartbeats 64000000
set_option maxRecDepth 100000
section
open Go.RowKit
attribute [local go_sem ↓] Go.wp_at_zero Go.wp_at_succ
structure Ca where
 kd:Int
 on:Int
 a:Int
 b:Int
 c:Int
 d:Int
 e:Int
 s:ByteArray
 p:Pn
abbrev Ca.arr (o:Ca):Array Value:=#[.int .i64 o.kd,.int .i64 o.on,.int .i64 o.a,.int .i64 o.b,.int .i64 o.c,.int .i64 o.d,.int .i64 o.e,.string o.s,.int .i64 o.p.f,.int .i64 o.p.b,.bool o.p.bo,.bool o.p.un,.bool o.p.re]
abbrev Ca.agg (o:Ca):Value:=.agg o.arr
abbrev zaE (x y s:Option Addr):Array Value:=#[.pointer x,.pointer y,.pointer s]
def zgX (w:World) (b:Nat) (o:Ca):Prop:=w.heap[b]?=some (.cells o.arr 35)
def zeA (w:World) (b:Nat) (x y s:Option Addr):Prop:=w.heap[b]?=some (.cells (zaE x y s) 28)
section
variable {w w':World} {b:Nat} {o:Ca} {x y s:Option Addr}
theorem zgX.lt (h:zgX w b o):b<w.heap.size:=(Array.getElem?_eq_some_iff.1 h).1
theorem zeA.lt (h:zeA w b x y s):b<w.heap.size:=(Array.getElem?_eq_some_iff.1 h).1
theorem zgX.keep {F:Nat->Prop} (h:zgX w b o) (k:zd F w w') (hF:¬F b):zgX w' b o:=by unfold zgX at *;rw[k.block _ (Array.getElem?_eq_some_iff.1 h).1 hF];exact h
theorem zeA.keep {F:Nat->Prop} (h:zeA w b x y s) (k:zd F w w') (hF:¬F b):zeA w' b x y s:=by unfold zeA at *;rw[k.block _ (Array.getElem?_eq_some_iff.1 h).1 hF];exact h
theorem zgX.below (h:zgX w b o) (k:Below w.heap.size w w'):zgX w' b o:=h.keep (zd.below (λ_=>False) k) id
theorem zeA.below (h:zeA w b x y s) (k:Below w.heap.size w w'):zeA w' b x y s:=h.keep (zd.below (λ_=>False) k) id
theorem zgX.cells (h:zgX w b o):w.cell? ⟨b,0,none⟩=some (.int .i64 o.kd)/\w.cell? ⟨b,1,none⟩=some (.int .i64 o.on)/\w.cell? ⟨b,2,none⟩=some (.int .i64 o.a)/\w.cell? ⟨b,3,none⟩=some (.int .i64 o.b)/\w.cell? ⟨b,4,none⟩=some (.int .i64 o.c)/\w.cell? ⟨b,5,none⟩=some (.int .i64 o.d)/\w.cell? ⟨b,6,none⟩=some (.int .i64 o.e)/\w.cell? ⟨b,7,none⟩=some (.string o.s)/\w.cell? ⟨b,8,none⟩=some (.int .i64 o.p.f)/\w.cell? ⟨b,9,none⟩=some (.int .i64 o.p.b)/\w.cell? ⟨b,10,none⟩=some (.bool o.p.bo)/\w.cell? ⟨b,11,none⟩=some (.bool o.p.un)/\w.cell? ⟨b,12,none⟩=some (.bool o.p.re):=
 ⟨za h 0,za h 1,za h 2,za h 3,za h 4,za h 5,za h 6,za h 7,za h 8,za h 9,za h 10,za h 11,za h 12⟩
theorem zeA.cells (h:zeA w b x y s):w.cell? ⟨b,0,none⟩=some (.pointer x)/\w.cell? ⟨b,1,none⟩=some (.pointer y)/\w.cell? ⟨b,2,none⟩=some (.pointer s):=⟨za h 0,za h 1,za h 2⟩
end
theorem ZP.after {w wA w':World} {D D':Dv} (h:ZP wA D D' w') (b:Below w.heap.size w wA):ZP w D D' w' :=
 ⟨h.dv,h.xp,h.yp,h.sp,(zd.below _ b).trans h.keep (λ_ _ q=>q),λi hi=>(h.own i hi).imp id (λe=>by have:=b.size;omega)⟩
theorem zkS {w wA:World} {x y s:Option Addr} {o:Ca} (h:(w.alloc (.cells (zaE x y s) 28)).alloc (.cells o.arr 35)=wA):Hid (Below w.heap.size w wA)/\Hid (zeA wA w.heap.size x y s)/\Hid (zgX wA (w.heap.size+1) o):=by
 subst h;refine⟨((Below.refl _ _).alloc (Nat.le_refl _) _).alloc (by simp) _,?_,?_⟩
 ·show _=_;rw[Below.heap_alloc _ _ _ (by simp)];exact zf w _
 ·have:=zf (w.alloc (.cells (zaE x y s) 28)) (.cells o.arr 35);rw[size_alloc] at this;exact this
abbrev MvC (fn:Nat) (k on A B C E F:Int) (tx:ByteArray) (p:Pn) (f f2:Nat) (a:List Value) (r:Value):Prop:=k=1/\fn=40/\f=48/\f2=96/\a=[.int .i64 A,.int .i64 B,.int .i64 C,.int .i64 E,.int .i64 F]/\(∃r1 r2,r=.tuple #[.int .i64 r1,.int .i64 r2])\/k=2/\fn=40/\f=49/\f2=97/\a=[.int .i64 A]/\(∃q,r=.int .i64 q)\/k=3/\fn=40/\f=50/\f2=98/\a=[.int .i64 A,.int .i64 B,.int .i64 C]/\(∃q,r=.int .i64 q)\/k=4/\fn=40/\f=51/\f2=99/\a=[.int .i64 A,.int .i64 B,.int .i64 C]/\(∃q,r=.int .i64 q)\/k=5/\fn=40/\f=52/\f2=100/\a=[.int .i64 A,.bool (on.tmod 2==0)]/\(∃q,r=.int .i64 q)\/k=6/\fn=40/\f=53/\f2=101/\a=[.int .i64 A,.bool (on.tmod 2==0)]/\(∃q,r=.int .i64 q)\/k=7/\fn=40/\f=54/\f2=102/\a=[.int .i64 A,.int .i64 B]/\(∃q,r=.int .i64 q)\/k=8/\fn=10/\f=31/\f2=32/\a=[.int .i64 A,.int .i64 B,.int .i64 C,.string tx,p.agg]/\(∃q,r=.int .i64 q)\/k=9/\fn=10/\f=33/\f2=34/\a=[.int .i64 A,.int .i64 B,.int .i64 C,.int .i64 E,.int .i64 F,p.agg]/\(∃q,r=.int .i64 q)\/k=10/\fn=10/\f=35/\f2=36/\a=[.int .i64 A,.int .i64 B]/\(∃q,r=.int .i64 q)
theorem zaz {w:World} {x y s:Option Addr} (k on A B C E F:Int) (tx:ByteArray) (p:Pn) {fn f f2:Nat} {a:List Value} {r:Value} (hk:MvC fn k on A B C E F tx p f f2 a r) {O:Nat->Prop} {Q:World->World->Prop} (hO:∀i,O i->i<w.heap.size) (hB:∀wA,Below w.heap.size w wA->zb0 f f2 (λq=>(.pointer q::a).toArray) x y wA r O (Q wA)):
 Calls Tryz.prog fn #[.agg (zaE x y s),Ca.agg ⟨k,on,A,B,C,E,F,tx,p⟩] w λe w'=>e=.returned (.bool true)/\∃wA,Below w.heap.size w wA/\Q wA w':=by
 have HB:=zH hB;have HO:=zH hO;clear hB hO;rcases hk with⟨rfl,rfl,rfl,rfl,rfl,r1,r2,rfl⟩|⟨rfl,rfl,rfl,rfl,rfl,r1,rfl⟩|⟨rfl,rfl,rfl,rfl,rfl,r1,rfl⟩|⟨rfl,rfl,rfl,rfl,rfl,r1,rfl⟩|⟨rfl,rfl,rfl,rfl,rfl,r1,rfl⟩|⟨rfl,rfl,rfl,rfl,rfl,r1,rfl⟩|⟨rfl,rfl,rfl,rfl,rfl,r1,rfl⟩|⟨rfl,rfl,rfl,rfl,rfl,r1,rfl⟩|⟨rfl,rfl,rfl,rfl,rfl,r1,rfl⟩|⟨rfl,rfl,rfl,rfl,rfl,r1,rfl⟩;all_goals as_aux_lemma=>
  go_in;go_wp2_with fail;generalize hwA:World.alloc (w.alloc _) _=wA;obtain⟨Hba,Hd,Hc⟩:=zkS (o:=⟨_,on,A,B,C,E,F,tx,p⟩) hwA;first|go_at_call 48|go_at_call 49|go_at_call 50|go_at_call 51|go_at_call 52|go_at_call 53|go_at_call 54|go_at_call 31|go_at_call 33|go_at_call 35
  refine Calls.mono (HB.out wA Hba.out) ?_;rintro e w1 ⟨rfl,k1,hy⟩;have Hy:=zH hy;replace Hd:=zH (Hd.out.keep k1 (λq=>by have:=HO.out _ q;omega));replace Hc:=zH (Hc.out.keep k1 (λq=>by have:=HO.out _ q;omega));obtain⟨d0,d1,d2⟩:=Hd.out.cells;obtain⟨c0,c1,c2,c3,c4,c5,c6,c7,c8,c9,c10,c11,c12⟩:=Hc.out.cells;clear hy k1 hwA;go_wp2_with fail;first|go_at_call 96|go_at_call 97|go_at_call 98|go_at_call 99|go_at_call 100|go_at_call 101|go_at_call 102|go_at_call 32|go_at_call 34|go_at_call 36
  refine Calls.mono Hy.out ?_;rintro e w2 ⟨rfl,k2,hq⟩;have Hq:=zH hq;clear d0 d1 d2 c0 c1 c2 c3 c4 c5 c6 c7 c8 c9 c10 c11 c12 hq k2;go_wp2_with fail;go_ret;exact⟨rfl,wA,Hba.out,Hq.out⟩
theorem zkT {w:World} {x y s:Option Addr} (o:Ca) (h1:o.kd≠1) (h2:o.kd≠2) (h3:o.kd≠3) (h4:o.kd≠4) (h5:o.kd≠5) (h6:o.kd≠6) (h7:o.kd≠7):
 Calls Tryz.prog 40 #[.agg (zaE x y s),o.agg] w λe w'=>e=.returned (.bool true)/\Below w.heap.size w w':=by
 obtain⟨kd,on,A,B,C,E,F,tx,p⟩:=o;dsimp only at h1 h2 h3 h4 h5 h6 h7;have q1:(kd==1)=false:=by simpa using h1
 have q2:(kd==2)=false:=by simpa using h2
 have q3:(kd==3)=false:=by simpa using h3
 have q4:(kd==4)=false:=by simpa using h4
 have q5:(kd==5)=false:=by simpa using h5
 have q6:(kd==6)=false:=by simpa using h6
 have q7:(kd==7)=false:=by simpa using h7
 go_in;go_wp2_with fail;go_ret;exact⟨rfl,((Below.refl _ _).alloc (Nat.le_refl _) _).alloc (by simp) _⟩
theorem znq {w:World} {x y s:Option Addr} (on A B C E F:Int) (tx:ByteArray) (p:Pn) {r:Int} {O:Nat->Prop} {Q:World->World->Prop} (hO:∀i,O i->i<w.heap.size) (hB:∀wA,Below w.heap.size w wA->zb0 18 37 (λq=>#[.pointer q,.int .i64 A,.int .i64 B]) x y wA (.int .i64 r) O (Q wA)) {Q':World->World->Prop} (hT:∀wA w2,Q wA w2->Calls Tryz.prog 38 #[.pointer s,.int .i64 A,.int .i64 B] w2 λe w3=>∃r3:Int,e=.returned (.int .i64 r3)/\Q' wA w3):
 Calls Tryz.prog 10 #[.agg (zaE x y s),Ca.agg ⟨11,on,A,B,C,E,F,tx,p⟩] w λe w'=>e=.returned (.bool true)/\∃wA,Below w.heap.size w wA/\Q' wA w':=by
 have HB:=zH hB;have HO:=zH hO;have HT:=zH hT;clear hB hO hT;go_in;go_wp2_with fail;generalize hwA:World.alloc (w.alloc _) _=wA;obtain⟨Hba,Hd,Hc⟩:=zkS (o:=⟨_,on,A,B,C,E,F,tx,p⟩) hwA;clear hwA;have Hd0:=Hd;have Hc0:=Hc;go_at_call 18;refine(HB.out wA Hba.out).mono ?_;rintro e w1 ⟨rfl,k1,hy⟩;have Hy:Hid (Calls Tryz.prog 37 #[.pointer y,.int .i64 A,.int .i64 B] w1 λe w2=>e=.returned (.int .i64 r)/\zd O wA w2/\Q wA w2):=hy;replace Hd:=zH<|Hd.out.keep k1 (λq=>by have:=HO.out _ q;omega)
 replace Hc:=zH<|Hc.out.keep k1 (λq=>by have:=HO.out _ q;omega)
 obtain⟨d0,d1,d2⟩:=Hd.out.cells;obtain⟨c0,c1,c2,c3,c4,c5,c6,c7,c8,c9,c10,c11,c12⟩:=Hc.out.cells;clear hy k1;go_wp2_with fail;go_at_call 37;refine Hy.out.mono ?_;rintro e w2 ⟨rfl,k2,hq⟩;have Hq:=zH hq;replace Hd:=zH<|Hd0.out.keep k2 (λq=>by have:=HO.out _ q;omega)
 replace Hc:=zH<|Hc0.out.keep k2 (λq=>by have:=HO.out _ q;omega)
 clear d0 d1 d2 c0 c1 c2 c3 c4 c5 c6 c7 c8 c9 c10 c11 c12 hq k2;obtain⟨d0,d1,d2⟩:=Hd.out.cells;obtain⟨c0,c1,c2,c3,c4,c5,c6,c7,c8,c9,c10,c11,c12⟩:=Hc.out.cells;go_wp2_with fail;go_at_call 38;refine(HT.out wA w2 Hq.out).mono ?_;rintro e w3 ⟨r3,rfl,hq3⟩;have Hq3:=zH hq3;clear d0 d1 d2 c0 c1 c2 c3 c4 c5 c6 c7 c8 c9 c10 c11 c12 hq3;go_wp2_with fail;go_ret;exact⟨rfl,wA,Hba.out,Hq3.out⟩
theorem zfo {w:World} {x y s:Option Addr} (o:Ca) (h8:o.kd≠8) (h9:o.kd≠9) (h10:o.kd≠10) (h11:o.kd≠11) (h12:o.kd≠12) (h13:o.kd≠13) {Q:World->World->Prop}
 (hM:∀wA,Below w.heap.size w wA->Calls Tryz.prog 40 #[.agg (zaE x y s),o.agg] wA λe w'=>e=.returned (.bool true)/\Q wA w'):
 Calls Tryz.prog 10 #[.agg (zaE x y s),o.agg] w λe w'=>e=.returned (.bool true)/\∃wA,Below w.heap.size w wA/\Q wA w':=by
 obtain⟨kd,on,A,B,C,E,F,tx,p⟩:=o;dsimp only at h8 h9 h10 h11 h12 h13;have q1:(kd==8)=false:=by simpa using h8
 have q2:(kd==9)=false:=by simpa using h9
 have q3:(kd==10)=false:=by simpa using h10
 have q4:(kd==11)=false:=by simpa using h11
 have q5:(kd==12)=false:=by simpa using h12
 have q6:(kd==13)=false:=by simpa using h13
 have HM:=zH hM;clear hM h8 h9 h10 h11 h12 h13;go_in;go_wp2_with fail;generalize hwA:World.alloc (w.alloc _) _=wA;obtain⟨Hba,Hd,Hc⟩:=zkS (o:=⟨_,on,A,B,C,E,F,tx,p⟩) hwA;clear hwA;go_at_call 40;refine(HM.out wA Hba.out).mono ?_;rintro e w1 ⟨rfl,hq⟩;have Hq:=zH hq;clear hq;go_wp2_with fail;go_ret;exact⟨rfl,wA,Hba.out,Hq.out⟩
def OAt (w:World) (O:Option Dv) (x y s:Option Addr):Prop:=match O with
 |none=>x=none/\y=none/\s=none
 |some D=>x=D.xp/\y=D.yp/\s=D.sp/\zc2 w D
def zdr (O:Option Dv) (i:Nat):Prop:=match O with
 |none=>False
 |some D=>D.own i
section
variable {w w':World} {O:Option Dv} {x y s:Option Addr}
theorem OAt.keep {F:Nat->Prop} (h:OAt w O x y s) (k:zd F w w') (hF:∀i,zdr O i->¬F i):OAt w' O x y s:=by
 cases O with
 |none=>exact h
 |some D=>exact⟨h.1,h.2.1,h.2.2.1,h.2.2.2.keep k hF⟩
theorem OAt.below (h:OAt w O x y s) (b:Below w.heap.size w w'):OAt w' O x y s:=h.keep (zd.below (λ_=>False) b) (λ_ _ f=>f)
theorem OAt.lt (h:OAt w O x y s) {i:Nat} (hi:zdr O i):i<w.heap.size:=by
 cases O with
 |none=>exact hi.elim
 |some D=>exact h.2.2.2.lt hi
theorem ztK (h:OAt w O x y s) (a b:Int):∃(c:zk) (er:Int),(∀w',OAt w' O x y s->Calls Tryz.prog 11 #[.pointer x,.int .i64 a,.int .i64 b] w' λe w''=>e=.returned (.tuple #[c.agg,.int .i64 er])/\Below w'.heap.size w' w'') ∧
 (∀w',OAt w' O x y s->Calls Tryz.prog 39 #[.pointer y,.int .i64 a,.int .i64 b] w' λe w''=>e=.returned (.tuple #[c.agg,.int .i64 er])/\Below w'.heap.size w' w''):=by
 cases O with
 |none=>
  obtain⟨rfl,rfl,rfl⟩:=h;exact⟨noC,1,λw' _=>zp0 w' a b,λw' _=>zok w' a b⟩
 |some D=>
  obtain⟨rfl,rfl,rfl,h⟩:=h;obtain⟨rk,K,T⟩:=h.ok.tree;obtain⟨r,t,e,h0,h1,h2⟩:=T.head;have hr:r∈D.L:=by rw[e];exact List.mem_cons_self
  have hr0:D.L[0]?=some r:=by rw[e];rfl
  cases hin:inG r.W r.H a b with
  |false=>exact⟨noC,4,λw' q=>zpZ w' q.2.2.2.x r hr h0 a b hin,λw' q=>zol h.ok w' q.2.2.2.y r hr0 a b hin⟩
  |true=>
   obtain⟨a1,a2,b1,b2⟩:=zu.1 hin;obtain⟨a,rfl⟩:=Int.eq_ofNat_of_zero_le a1;obtain⟨b,rfl⟩:=Int.eq_ofNat_of_zero_le b1;exact⟨zcx D.L K r a b,0,λw' q=>ztB T h.ok w' q.2.2.2.x r hr h0 a b (by omega) (by omega),λw' q=>zhC T h.ok w' q.2.2.2.y r hr0 a b hin⟩
theorem zf8 (h:OAt w O x y s):Calls Tryz.prog 27 #[.agg (zaE x y s)] w λe w'=>e=.returned (.bool true)/\Below w.heap.size w w':=by
 have HP:=zH h;have HcB:Hid (∀(a b:Int),∃(c:zk) (er:Int),(∀w',OAt w' O x y s->Calls Tryz.prog 11 #[.pointer x,.int .i64 a,.int .i64 b] w' λe w''=>e=.returned (.tuple #[c.agg,.int .i64 er])/\Below w'.heap.size w' w'') ∧
  (∀w',OAt w' O x y s->Calls Tryz.prog 39 #[.pointer y,.int .i64 a,.int .i64 b] w' λe w''=>e=.returned (.tuple #[c.agg,.int .i64 er])/\Below w'.heap.size w' w'')):=λa b=>ztK h a b
 clear h;go_in;go_wp2_with fail;have hbl:Below w.heap.size w (w.alloc (.cells (zaE x y s) 28)):=(Below.refl _ _).alloc (Nat.le_refl _) _;have HPp:Hid (zeA (w.alloc (.cells (zaE x y s) 28)) w.heap.size x y s):=zf w _;replace HP:=zH<|HP.out.below hbl
 have HB1:=zH hbl;obtain⟨Bp,hBp⟩:∃Bp,w.heap.size=Bp:=⟨_,rfl⟩;generalize w.alloc (.cells (zaE x y s) 28)=w0 at *;rw[hBp] at HPp;have HBp:=zH hBp;simp only[hBp];clear hbl hBp;go_loopw[3] (λi w'=>∃k:Nat,k<=22/\i=.int .i64 ((k:Int)-1)/\OAt w' O x y s/\zeA w' Bp x y s/\Below w.heap.size w w') (λi _=>22-(intOf i+1).toNat)
 case atStart=>exact⟨0,by omega,rfl,HP.out,HPp.out,HB1.out⟩
 case round=>
  obtain⟨k,hk,rfl,hP,hPp,hB⟩:=hrel;clear HP HPp HB1;have HP:=zH hP;have HPp:=zH hPp;have HB1:=zH hB;clear hP hPp hB;by_cases hlt:k<=21
  ·have hlt':(k:Int)-1<=20:=by omega
   have wk:IntKind.i64.wrap ((k:Int)-1+1)=k:=by rw[zm _ (by omega) (by omega)];omega
   go_wp2_with fail;go_loopw[4] (λi w'=>∃j:Nat,j<=42/\i=.int .i64 ((j:Int)-1)/\OAt w' O x y s/\zeA w' Bp x y s/\Below w.heap.size w w') (λi _=>42-(intOf i+1).toNat)
   case atStart=>exact⟨0,by omega,rfl,HP.out,HPp.out,HB1.out⟩
   case round=>
    obtain⟨j,hkj,rfl,hP,hPp,hB⟩:=hrel;clear HP HPp HB1;have HP:=zH hP;have HPp:=zH hPp;have HB1:=zH hB;clear hP hPp hB;by_cases hltj:j<=41
    ·have hltj':(j:Int)-1<=40:=by omega
     obtain⟨q0,q1,q2⟩:=HPp.out.cells;obtain⟨c,er,hx,hy⟩:=HcB.out ((j:Int)-1) ((k:Int)-1);have Hx:=zH hx;have Hy:=zH hy;clear hx hy;go_wp2_with fail;clear q0 q1 q2;go_at_call 11;refine(Hx.out _ HP.out).mono ?_;rintro e w3 ⟨rfl,b3⟩;replace HP:=zH<|HP.out.below b3
     replace HPp:=zH<|HPp.out.below b3
     replace HB1:=zH<|HB1.out.trans (b3.mono HB1.out.size)
     clear b3;obtain⟨q0,q1,q2⟩:=HPp.out.cells;have lq:=HPp.out.lt;go_wp2_with fail;generalize hw4:w3.alloc _=w4;have b4:Below w3.heap.size w3 w4:=by rw[←hw4];exact(Below.refl _ _).alloc (Nat.le_refl _) _
     have A4:zv w4 w3.heap.size 0 c:=by rw[←hw4];exact zcq w3 c _ rfl _
     replace HP:=zH<|HP.out.below b4
     replace HPp:=zH<|HPp.out.below b4
     replace HB1:=zH<|HB1.out.trans (b4.mono HB1.out.size)
     have l4:=A4.lt;generalize w3.heap.size=Bc at *;clear b4 hw4 q0 q1 q2 lq;go_at_call 39;refine(Hy.out _ HP.out).mono ?_;rintro e w5 ⟨rfl,b5⟩;replace HP:=zH<|HP.out.below b5
     replace HPp:=zH<|HPp.out.below b5
     replace HB1:=zH<|HB1.out.trans (b5.mono HB1.out.size)
     obtain⟨a0,a1,a2,a3,a4,a5,a6⟩:=A4.below b5 l4;simp only[Nat.zero_add] at a1 a2 a3 a4 a5 a6;replace l4:=Nat.lt_of_lt_of_le l4 b5.size;clear b5 A4;go_wp2_with fail;exact⟨⟨j+1,by omega,by simp,HP.out.below ((Below.refl _ _).alloc (Nat.le_refl _) _),HPp.out.below ((Below.refl _ _).alloc (Nat.le_refl _) _),HB1.out.trans (((Below.refl _ _).alloc (Nat.le_refl _) _).mono HB1.out.size)⟩,by simp only[intOf];omega⟩
    ·have hltj':¬(j:Int)-1<=40:=by omega
     go_wp2_with fail;exact⟨⟨k+1,by omega,by simp,HP.out,HPp.out,HB1.out⟩,by simp only[intOf];omega⟩
  ·have hlt':¬(k:Int)-1<=20:=by omega
   go_wp2_with fail;go_ret;exact⟨rfl,HB1.out⟩
end
theorem zst {w:World} {O:Option Dv} {x y s:Option Addr} (h:OAt w O x y s) (on A B C E F:Int) (tx:ByteArray) (p:Pn):
 Calls Tryz.prog 10 #[.agg (zaE x y s),Ca.agg ⟨12,on,A,B,C,E,F,tx,p⟩] w λe w'=>e=.returned (.bool true)/\Below w.heap.size w w':=by
 have HP:=zH h;obtain⟨c,er,hx,hy⟩:=ztK h A B;have Hx:=zH hx;have Hy:=zH hy;clear h hx hy;go_in;go_wp2_with fail;generalize hwA:World.alloc (w.alloc _) _=wA;obtain⟨Hba,Hd,Hc⟩:=zkS (o:=⟨_,on,A,B,C,E,F,tx,p⟩) hwA;replace HP:=zH (HP.out.below Hba.out);clear hwA;go_at_call 11;refine(Hx.out wA HP.out).mono ?_;rintro e w3 ⟨rfl,b3⟩;replace HP:=zH<|HP.out.below b3
 replace Hd:=zH<|Hd.out.below b3
 replace Hc:=zH<|Hc.out.below b3
 replace Hba:=zH<|Hba.out.trans (b3.mono Hba.out.size)
 obtain⟨d0,d1,d2⟩:=Hd.out.cells;obtain⟨c0,c1,c2,c3,c4,c5,c6,c7,c8,c9,c10,c11,c12⟩:=Hc.out.cells;have l1:=Hd.out.lt;have l2:=Hc.out.lt;clear b3;go_wp2_with fail;generalize hw4:w3.alloc _=w4;have b4:Below w3.heap.size w3 w4:=by rw[←hw4];exact(Below.refl _ _).alloc (Nat.le_refl _) _
 have A4:zv w4 w3.heap.size 0 c:=by rw[←hw4];exact zcq w3 c _ rfl _
 replace HP:=zH<|HP.out.below b4
 replace Hba:=zH<|Hba.out.trans (b4.mono Hba.out.size)
 have l4:=A4.lt;generalize w3.heap.size=Bc at *;clear b4 hw4 d0 d1 d2 c0 c1 c2 c3 c4 c5 c6 c7 c8 c9 c10 c11 c12 l1 l2;go_at_call 39;refine(Hy.out _ HP.out).mono ?_;rintro e w5 ⟨rfl,b5⟩;replace Hba:=zH<|Hba.out.trans (b5.mono Hba.out.size)
 obtain⟨a0,a1,a2,a3,a4,a5,a6⟩:=A4.below b5 l4;simp only[Nat.zero_add] at a1 a2 a3 a4 a5 a6;replace l4:=Nat.lt_of_lt_of_le l4 b5.size;clear b5 A4;go_wp2_with fail;go_ret;exact⟨rfl,Hba.out.trans (((Below.refl _ _).alloc (Nat.le_refl _) _).mono Hba.out.size)⟩
end
section
set_option maxRecDepth 100000
open Go.RowKit
def zcG (O:Option Dv):Int:=match O with
 |none=>0
 |some D=>D.last
def zxd (w:World) (O:Option Dv) (x y s:Option Addr) (e:Ending) (w':World):Prop:=
 ∃O',e=.returned (.bool true)/\OAt w' O' x y s/\zd (zdr O) w w'/\(∀i,zdr O' i->zdr O i\/w.heap.size<=i)/\zcG O'<=zcG O+1
theorem zb0.nil {fx fy:Nat} {a:Option Addr->Array Value} {r:Value} (hx:∀w,Calls Tryz.prog fx (a none) w λe w'=>e=.returned r/\Below w.heap.size w w') (hy:∀w,Calls Tryz.prog fy (a none) w λe w'=>e=.returned r/\Below w.heap.size w w') (wA:World):
 zb0 fx fy a none none wA r (λ_=>False) (λw2=>Below wA.heap.size wA w2):=by
 refine(hx wA).mono ?_;rintro e w1 ⟨rfl,b1⟩;refine⟨rfl,zd.below _ b1,?_⟩;refine(hy w1).mono ?_;rintro e w2 ⟨rfl,b2⟩;have b:=b1.trans (b2.mono b1.size);exact⟨rfl,zd.below _ b,b⟩
end
section
def zbd:Option Nat->List UInt8
 |none=>[]
 |some n=>Lib.decDigits n
def zgY:Option Nat->Int
 |none=>0
 |some n=>n
def zaP (c:UInt8) (ts:List (Option Nat)):List UInt8:=[27,91]++Lib.join (ts.map zbd) [59] ++ [c]
def zbN (ts:List (Option Nat)):Prop:=∀n,some n∈ts->n<100
theorem ZS (s:Rs) (a b:List UInt8):zj s (a++b)=zj (zj s a) b:=List.foldl_append
theorem zeB (s:Rs) (c:UInt8):zj s [c]=za3 s c:=rfl
theorem zqo (s:Rs):zj s []=s:=rfl
theorem ziX {s:Rs} (hB:s.B=⟨#[]⟩):({s with B:=⟨#[]⟩}:Rs)=s:=by
 cases s;simp at hB;subst hB;rfl
theorem zsu (l:List UInt8) (h:∀c∈l,c.toNat=59\/(48<=c.toNat/\c.toNat<=57)):∀(s:Rs) (acc:List UInt8),s.B=⟨(27::91::acc).toArray⟩->zj s l={s with B:=⟨(27::91::(acc++l)).toArray⟩}:=by
 induction l with
 |nil=>
  intro s acc e;rw[List.append_nil,←e];rfl
 |cons c r ih=>
  intro s acc e;have hc:=h c (List.mem_cons_self ..);have h1:za3 s c={s with B:=⟨(27::91::(acc ++ [c])).toArray⟩}:=by
   unfold za3;rw[e];show zbW s acc c=_;unfold zbW;rw[if_neg (by omega),if_neg (by omega)];rfl
  show zj (za3 s c) r=_;rw[h1,ih (λd hd=>h d (List.mem_cons_of_mem _ hd)) _ (acc ++ [c]) rfl];simp
theorem zkU (s:Rs) (hB:s.B=⟨#[]⟩) (l:List UInt8) (h:∀c∈l,c.toNat=59\/(48<=c.toNat/\c.toNat<=57)) (c:UInt8) (h1:64<=c.toNat) (h2:c.toNat<=126):
 zj s ([27,91]++l ++ [c])=ze2 s ⟨l.toArray⟩ c.toNat:=by
 rw[ZS,ZS];have a:zj s [27,91]={s with B:=⟨#[27,91]⟩}:=by
  show za3 (za3 s 27) 91=_;have e1:za3 s 27={s with B:=⟨#[27]⟩}:=by
   unfold za3;rw[hB];rfl
  rw[e1];rfl
 rw[a,zsu l h _ [] rfl,zeB];unfold za3;show zbW _ l c=_;unfold zbW;rw[if_neg (by omega),if_pos (by omega)];congr 1;exact ziX hB
theorem znr {n:Nat} (h:n<10):Lib.decDigits n=[UInt8.ofNat (48+n)]:=by rw[Lib.decDigits,dif_pos h]
theorem zqp {n:Nat} (h:¬n<10) (h2:n<100):Lib.decDigits n=[UInt8.ofNat (48+n/10),UInt8.ofNat (48+n%10)]:=by
 rw[Lib.decDigits,dif_neg h,znr (by omega)];rfl
theorem u8n {n:Nat} (h:n<256):(UInt8.ofNat n).toNat=n:=by simp;omega
theorem zns {t:Option Nat} (h:∀n,t=some n->n<100):∀c∈zbd t,48<=c.toNat/\c.toNat<=57:=by
 intro c hc;cases t with
 |none=>cases hc
 |some n=>
  have hn:=h n rfl;by_cases h1:n<10
  ·simp only[zbd,znr h1,List.mem_singleton] at hc;subst hc;rw[u8n (by omega)];omega
  ·simp only[zbd,zqp h1 hn,List.mem_cons,List.not_mem_nil,or_false] at hc;rcases hc with rfl|rfl
   ·rw[u8n (by omega)];omega
   ·rw[u8n (by omega)];omega
theorem znt {t:Option Nat} (h:∀n,t=some n->n<100):(zbd t).length<=2:=by
 cases t with
 |none=>simp[zbd]
 |some n=>
  have hn:=h n rfl;by_cases h1:n<10
  ·simp[zbd,znr h1]
  ·simp[zbd,zqp h1 hn]
theorem zbN.head {t:Option Nat} {ts:List (Option Nat)} (h:zbN (t::ts)):∀n,t=some n->n<100:=λn e=>h n (by rw[e];exact List.mem_cons_self ..)
theorem zbN.tail {t:Option Nat} {ts:List (Option Nat)} (h:zbN (t::ts)):zbN ts:=λn e=>h n (List.mem_cons_of_mem _ e)
theorem zqq {ts:List (Option Nat)} (h:zbN ts):∀c∈Lib.joinTail [59] (ts.map zbd),c.toNat=59\/(48<=c.toNat/\c.toNat<=57):=by
 induction ts with
 |nil=>intro c hc;simp[Lib.joinTail] at hc
 |cons t r ih=>
  intro c hc;simp only[Lib.joinTail,List.map_cons,List.flatten_cons,List.mem_append,List.mem_singleton] at hc;rcases hc with(rfl|hc)|hc
  ·exact .inl rfl
  ·exact .inr (zns h.head c hc)
  ·exact ih h.tail c hc
theorem zqr {ts:List (Option Nat)} (h:zbN ts):∀c∈Lib.join (ts.map zbd) [59],c.toNat=59\/(48<=c.toNat/\c.toNat<=57):=by
 cases ts with
 |nil=>intro c hc;simp[Lib.join_nil] at hc
 |cons t r=>
  intro c hc;rw[List.map_cons,Lib.join_cons,List.mem_append] at hc;rcases hc with hc|hc
  ·exact .inr (zns h.head c hc)
  ·exact zqq h.tail c hc
theorem zfL {l:List Int} (h:l≠[]):zz l=l:=by unfold zz;rw[if_neg h]
theorem zg9 (l:List Int) (v:Int):l ++ [v]≠[]:=by simp
theorem zjR (l:List Int) (a v:Int):Z0 (l ++ [a]) v=l ++ [v]:=by
 unfold Z0;simp
theorem zkV (l:List Int) (a:Int):zbh (l ++ [a])=a:=by
 unfold zbh;simp
theorem zjS {l pre:List Int} {a:Int} (h:zz l=pre ++ [a]) (c:UInt8) (h1:48<=c.toNat) (h2:c.toNat<=57) (ha:0<=a) (hb:a<100):Z2 l c.toNat=some (pre ++ [10*a+((c.toNat:Int)-48)]):=by
 unfold Z2;rw[if_neg (by omega),if_pos (by omega),h,zjR,zkV];unfold zf4;rw[if_neg (by omega)]
theorem zkW {t:Option Nat} (h:∀n,t=some n->n<100) {l pre:List Int} (hl:zz l=pre ++ [0]):∃l',Zm (zbd t) l=some l'/\zz l'=pre ++ [zgY t]:=by
 cases t with
 |none=>exact⟨l,rfl,hl⟩
 |some n=>
  have hn:=h n rfl;by_cases h1:n<10
  ·refine⟨pre ++ [(n:Int)],?_,zfL (zg9 _ _)⟩;simp only[zbd,znr h1,Zm];rw[zjS hl _ (by rw[u8n (by omega)];omega) (by rw[u8n (by omega)];omega) (by omega) (by omega),u8n (by omega)];simp only[Option.some.injEq];congr 2;omega
  ·refine⟨pre ++ [(n:Int)],?_,zfL (zg9 _ _)⟩;simp only[zbd,zqp h1 hn,Zm];rw[zjS hl _ (by rw[u8n (by omega)];omega) (by rw[u8n (by omega)];omega) (by omega) (by omega),u8n (by omega)];simp only;rw[zjS (zfL (zg9 _ _)) _ (by rw[u8n (by omega)];omega) (by rw[u8n (by omega)];omega) (by omega) (by omega),u8n (by omega)];simp only[Option.some.injEq];congr 2;omega
theorem zou {ts:List (Option Nat)} (h:zbN ts):∀ {l vs:List Int},zz l=vs->∃l',Zm (Lib.joinTail [59] (ts.map zbd)) l=some l'/\zz l'=vs++ts.map zgY:=by
 induction ts with
 |nil=>intro l vs e;exact⟨l,rfl,by simpa using e⟩
 |cons t r ih=>
  intro l vs e;have hs:Z2 l ((59:UInt8).toNat:Int)=some (vs ++ [0]):=by
   unfold Z2;rw[if_pos (by decide),e]
  obtain⟨l1,e1,b1⟩:=zkW h.head (l:=vs ++ [0]) (pre:=vs) (zfL (zg9 _ _));obtain⟨l2,e2,b2⟩:=ih h.tail b1;refine⟨l2,?_,by rw[b2];simp⟩;have ej:Lib.joinTail [59] ((t::r).map zbd)=59::(zbd t++Lib.joinTail [59] (r.map zbd)):=by simp[Lib.joinTail]
  rw[ej];simp only[Zm];rw[hs];simp only;rw[zbB,e1];exact e2
theorem zov {t:Option Nat} {ts:List (Option Nat)} (h:zbN (t::ts)):∃l,zel ⟨(Lib.join ((t::ts).map zbd) [59]).toArray⟩=some l/\zz l=(t::ts).map zgY:=by
 obtain⟨l1,e1,b1⟩:=zkW h.head (l:=[]) (pre:=[]) rfl;obtain⟨l2,e2,b2⟩:=zou h.tail b1;refine⟨l2,?_,by rw[b2];rfl⟩;show Zm (Lib.join ((t::ts).map zbd) [59]) []=some l2;rw[List.map_cons,Lib.join_cons,zbB,e1];exact e2
theorem zjT (l:List Int):l.length<=(zz l).length:=by
 unfold zz;split
 ·rename_i e;rw[e];simp
 ·exact Nat.le_refl _
theorem zeC (l:List Int) (i:Nat):(zz l).getD i 0=l.getD i 0:=by
 unfold zz;split
 ·rename_i e;rw[e];cases i<;>simp
 ·rfl
theorem zbg {s:Rs} (hB:s.B=⟨#[]⟩) (c:UInt8) (h1:64<=c.toNat) (h2:c.toNat<=126) {t:Option Nat} {ts:List (Option Nat)} (h:zbN (t::ts)) (hl:(t::ts).length<=8):
 ∃l,zj s (zaP c (t::ts))=zJ s l c.toNat/\zz l=(t::ts).map zgY:=by
 obtain⟨l,e,b⟩:=zov h;refine⟨l,?_,b⟩;unfold zaP;rw[zkU s hB _ (zqr h) c h1 h2];unfold ze2;rw[e];simp only;rw[if_pos];have:=zjT l;rw[b] at this;simp at this hl;omega
theorem ziY {s:Rs} (hB:s.B=⟨#[]⟩) (c:UInt8) (h1:64<=c.toNat) (h2:c.toNat<=126):zj s (zaP c [])=zJ s [] c.toNat:=by
 unfold zaP;rw[zkU s hB _ (by intro c hc;simp[Lib.join_nil] at hc) c h1 h2];rfl
theorem zdl (c:UInt8) (t:Option Nat) (ts:List (Option Nat)) (h:zbN (t::ts)):(zaP c (t::ts)).length<=5+3*ts.length:=by
 have ht:=znt h.head;have htl:(Lib.joinTail [59] (ts.map zbd)).length<=3*ts.length:=by
  have h':=h.tail;clear h ht;induction ts with
  |nil=>simp[Lib.joinTail]
  |cons t r ih=>
   have:=znt h'.head;have:=ih h'.tail;simp only[Lib.joinTail,List.map_cons,List.flatten_cons,List.length_append,List.length_cons,List.length_nil] at *;omega
 simp only[zaP,List.map_cons,Lib.join_cons,List.length_append,List.length_cons,List.length_nil];omega
theorem zhO (c:UInt8):(zaP c []).length=3:=rfl
end
section
open Wd (wd)
def Pn.eqB (a b:Pn):Bool:=decide (a.f=b.f)&&decide (a.b=b.b)&&(a.bo==b.bo)&&(a.un==b.un)&&(a.re==b.re)
theorem Pn.eqB_iff {a b:Pn}:a.eqB b=true↔a=b:=by
 obtain⟨f,g,x,y,z⟩:=a;obtain⟨f',g',x',y',z'⟩:=b;simp[Pn.eqB,and_assoc]
theorem Pn.eqB_not {a b:Pn}:a.eqB b=false↔a≠b:=by
 rw[←Bool.not_eq_true,Pn.eqB_iff]
def zk.eqB (a b:zk):Bool:=decide (a.r=b.r)&&decide (a.p=b.p)&&a.n.eqB b.n
theorem zk.eqB_iff {a b:zk}:a.eqB b=true↔a=b:=by
 obtain⟨r,p,n⟩:=a;obtain⟨r',p',n'⟩:=b;simp[zk.eqB,and_assoc,Pn.eqB_iff]
theorem zk.eqB_not {a b:zk}:a.eqB b=false↔a≠b:=by
 rw[←Bool.not_eq_true,zk.eqB_iff]
def zb7 (n:Int):Option Nat:=if n=1 then none else some n.toNat
def Zy (by_:Int) (onward back:UInt8):List UInt8:=if by_<0 then zaP back [zb7 (-by_)] else zaP onward [zb7 by_]
def zag (x y:Int):List UInt8:=if x=0 then zaP 72 [zb7 (y+1)] else zaP 72 [zb7 (y+1),zb7 (x+1)]
theorem zcn {n:Int} (h:1<=n):Zu (zgY (zb7 n))=n:=by
 unfold zb7;by_cases e:n=1
 ·rw[if_pos e,e];rfl
 ·rw[if_neg e];show Zu (n.toNat:Int)=n;unfold Zu;rw[if_neg (by omega)];omega
theorem ZD {n:Int} (h:n<100) {ts:List (Option Nat)} (ht:zbN ts):zbN (zb7 n::ts):=by
 intro m hm;rcases List.mem_cons.1 hm with e|e
 ·unfold zb7 at e;split at e
  ·cases e
  ·cases e;omega
 ·exact ht m e
theorem Z3:zbN []:=λn h=>by cases h
theorem zf9 {v:Int} {m:Nat} (h0:0<=v) (h1:v<m):zap v m=v:=by
 unfold zap;rw[if_neg (by omega),if_neg (by omega)]
theorem zco {s:Rs} {x y:Int} (x0:0<=x) (x1:x<s.W) (y0:0<=y) (y1:y<s.H):ZQ s x y={s with x:=x,y:=y,pend:=false}:=by
 unfold ZQ;rw[zf9 x0 x1,zf9 y0 y1]
theorem zfM {l:List Int} {a:Int} {r:List Int} (h:zz l=a::r):l.getD 0 0=a:=by
 rw[←zeC,h];rfl
theorem zvJ {l:List Int} {a b:Int} {r:List Int} (h:zz l=a::b::r):l.getD 1 0=b:=by
 rw[←zeC,h];rfl
theorem zuk {l:List Int} {a:Int} (h:zz l=[a]):l.getD 1 0=0:=by
 rw[←zeC,h];rfl
theorem zhP {s:Rs} (hB:s.B=⟨#[]⟩) {x y:Int} (x0:0<=x) (x1:x<s.W) (y0:0<=y) (y1:y<s.H) (hW:s.W<=40) (hH:s.H<=20):
 zj s (zag x y)={s with x:=x,y:=y,pend:=false}:=by
 unfold zag;by_cases hx:x=0
 ·rw[if_pos hx];obtain⟨l,e,b⟩:=zbg hB 72 (by decide) (by decide) (ZD (n:=y+1) (by omega) Z3) (by simp);rw[e];have g0:=zfM b;have g1:=zuk b;unfold zJ;simp only[g0,g1];rw[zcn (by omega)];have:Zu 0=1:=rfl;simp[this];rw[hx] at *;rw[zco (by omega) (by omega) (by omega) (by omega)]
 ·rw[if_neg hx];obtain⟨l,e,b⟩:=zbg hB 72 (by decide) (by decide) (ZD (n:=y+1) (by omega) (ZD (n:=x+1) (by omega) Z3)) (by simp);rw[e];have g0:=zfM b;have g1:=zvJ b;unfold zJ;simp only[g0,g1];rw[zcn (by omega),zcn (by omega)];simp;rw[zco (by omega) (by omega) (by omega) (by omega)]
theorem zga {x y:Int} (x1:x<40) (y1:y<20):(zag x y).length<=8:=by
 unfold zag;by_cases hx:x=0
 ·rw[if_pos hx];have:=zdl 72 _ _ (ZD (n:=y+1) (by omega) Z3);simp at this;omega
 ·rw[if_neg hx];have:=zdl 72 _ _ (ZD (n:=y+1) (by omega) (ZD (n:=x+1) (by omega) Z3));simp at this;omega
theorem zow {s:Rs} (hB:s.B=⟨#[]⟩) {y:Int} (x0:0<=s.x) (x1:s.x<s.W) (sy0:0<=s.y) (sy1:s.y<s.H) (y0:0<=y) (y1:y<s.H) (hH:s.H<=20) (hne:s.y≠y):
 zj s (Zy (y-s.y) 66 65)={s with y:=y,pend:=false}:=by
 unfold Zy;by_cases hn:y-s.y<0
 ·rw[if_pos hn];obtain⟨l,e,b⟩:=zbg hB 65 (by decide) (by decide) (ZD (n:=-(y-s.y)) (by omega) Z3) (by simp);rw[e];have g0:=zfM b;unfold zJ;simp only[g0];rw[zcn (by omega)];simp;rw[zco (by omega) (by omega) (by omega) (by omega)];congr 1;omega
 ·rw[if_neg hn];obtain⟨l,e,b⟩:=zbg hB 66 (by decide) (by decide) (ZD (n:=y-s.y) (by omega) Z3) (by simp);rw[e];have g0:=zfM b;unfold zJ;simp only[g0];rw[zcn (by omega)];simp;rw[zco (by omega) (by omega) (by omega) (by omega)];congr 1;omega
theorem zmt {s:Rs} (hB:s.B=⟨#[]⟩) {x:Int} (sx0:0<=s.x) (sx1:s.x<s.W) (sy0:0<=s.y) (sy1:s.y<s.H) (x0:0<=x) (x1:x<s.W) (hW:s.W<=40) (hne:s.x≠x):
 zj s (Zy (x-s.x) 67 68)={s with x:=x,pend:=false}:=by
 unfold Zy;by_cases hn:x-s.x<0
 ·rw[if_pos hn];obtain⟨l,e,b⟩:=zbg hB 68 (by decide) (by decide) (ZD (n:=-(x-s.x)) (by omega) Z3) (by simp);rw[e];have g0:=zfM b;unfold zJ;simp only[g0];rw[zcn (by omega)];simp;rw[zco (by omega) (by omega) (by omega) (by omega)];congr 1;omega
 ·rw[if_neg hn];obtain⟨l,e,b⟩:=zbg hB 67 (by decide) (by decide) (ZD (n:=x-s.x) (by omega) Z3) (by simp);rw[e];have g0:=zfM b;unfold zJ;simp only[g0];rw[zcn (by omega)];simp;rw[zco (by omega) (by omega) (by omega) (by omega)];congr 1;omega
theorem zkX {s:Rs} (hB:s.B=⟨#[]⟩) {n:Int} (h0:n≠0) (h1:-100<n) (h2:n<100):
 zj s (Zy n 83 84)={s with G:=zo s.top s.bot n (zS s) s.G}:=by
 unfold Zy;by_cases hn:n<0
 ·rw[if_pos hn];obtain⟨l,e,b⟩:=zbg hB 84 (by decide) (by decide) (ZD (n:=-n) (by omega) Z3) (by simp);rw[e];have g0:=zfM b;unfold zJ;simp only[g0];rw[zcn (by omega)];simp
 ·rw[if_neg hn];obtain⟨l,e,b⟩:=zbg hB 83 (by decide) (by decide) (ZD (n:=n) (by omega) Z3) (by simp);rw[e];have g0:=zfM b;unfold zJ;simp only[g0];rw[zcn (by omega)];simp
theorem zgb {n:Int} (h1:-100<n) (h2:n<100) (a b:UInt8):(Zy n a b).length<=5:=by
 unfold Zy;split
 ·have:=zdl b _ _ (ZD (n:=-n) (by omega) Z3);simpa using this
 ·have:=zdl a _ _ (ZD (n:=n) (by omega) Z3);simpa using this
def ZV (was is:Bool) (on off:Nat):List (Option Nat):=if is=true/\was=false then[some on] else if was=true/\is=false then[some off] else[]
def zbO (was is:Int) (first:Nat):List (Option Nat):=if is=was then[] else if is=0 then[some (first+9)] else[some (first+is.toNat-1)]
def zbe (a b:Pn):List (Option Nat):=ZV a.bo b.bo 1 22++ZV a.un b.un 4 24++ZV a.re b.re 7 27++zbO a.f b.f 30++zbO a.b b.b 40
def zcD (a b:Pn):List UInt8:=
 if a.eqB b=true then[] else if (zaP 109 (none::zbe Pn.plain b)).length<(zaP 109 (zbe a b)).length then zaP 109 (none::zbe Pn.plain b) else zaP 109 (zbe a b)
def Pn.Ok (p:Pn):Prop:=0<=p.f/\p.f<=8/\0<=p.b/\p.b<=8
theorem zgc (was is:Bool) {on off:Nat} (h1:on<100) (h2:off<100):zbN (ZV was is on off):=by
 intro n hn;unfold ZV at hn;split at hn
 ·simp at hn;omega
 ·split at hn
  ·simp at hn;omega
  ·cases hn
theorem zhQ (was:Int) {is:Int} {first:Nat} (h0:0<=is) (h1:is<=8) (h2:first<50):zbN (zbO was is first):=by
 intro n hn;unfold zbO at hn;split at hn
 ·cases hn
 ·split at hn
  ·simp at hn;omega
  ·simp at hn;omega
theorem zc5 {a b:List (Option Nat)} (ha:zbN a) (hb:zbN b):zbN (a++b):=λn hn=>by
 rcases List.mem_append.1 hn with e|e
 ·exact ha n e
 ·exact hb n e
theorem zdH (was is:Bool) (on off:Nat):(ZV was is on off).length<=1:=by
 unfold ZV;split
 ·simp
 ·split<;>simp
theorem zfN (was is:Int) (first:Nat):(zbO was is first).length<=1:=by
 unfold zbO;split
 ·simp
 ·split<;>simp
theorem zdI (a:Pn) {b:Pn} (hb:b.Ok):zbN (zbe a b)/\(zbe a b).length<=5:=by
 obtain⟨h1,h2,h3,h4⟩:=hb;refine⟨zc5 (zc5 (zc5 (zc5 (zgc _ _ (by omega) (by omega)) (zgc _ _ (by omega) (by omega))) (zgc _ _ (by omega) (by omega))) (zhQ _ h1 h2 (by omega))) (zhQ _ h3 h4 (by omega)),?_⟩;have a1:=zdH a.bo b.bo 1 22;have a2:=zdH a.un b.un 4 24;have a3:=zdH a.re b.re 7 27;have a4:=zfN a.f b.f 30;have a5:=zfN a.b b.b 40;simp only[zbe,List.length_append];omega
theorem zgd (p:Pn) (was is:Bool) (on off:Nat) (st:Bool->Pn) (h1:zdb p on=st true) (h2:zdb p off=st false) (h3:p=st was):((ZV was is on off).map zgY).foldl zdb p=st is:=by
 unfold ZV;cases was<;>cases is<;>simp[zgY,h1,h2,←h3]
theorem zmu (p:Pn) {is:Int} (h0:0<=is) (h1:is<=8):((zbO p.f is 30).map zgY).foldl zdb p={p with f:=is}:=by
 unfold zbO;by_cases e:is=p.f
 ·rw[if_pos e,e];rfl
 ·rw[if_neg e];by_cases e0:is=0
  ·rw[if_pos e0,e0];rfl
  ·rw[if_neg e0];show zdb p ((30+is.toNat-1:Nat):Int)=_;have e1:((30+is.toNat-1:Nat):Int)=29+is:=by omega
   rw[e1];unfold zdb
   iterate 9 rw[if_neg (by omega)]
   rw[if_pos (by omega)];congr 1;omega
theorem zox (p:Pn) {is:Int} (h0:0<=is) (h1:is<=8):((zbO p.b is 40).map zgY).foldl zdb p={p with b:=is}:=by
 unfold zbO;by_cases e:is=p.b
 ·rw[if_pos e,e];rfl
 ·rw[if_neg e];by_cases e0:is=0
  ·rw[if_pos e0,e0];rfl
  ·rw[if_neg e0];show zdb p ((40+is.toNat-1:Nat):Int)=_;have e1:((40+is.toNat-1:Nat):Int)=39+is:=by omega
   rw[e1];unfold zdb
   iterate 10 rw[if_neg (by omega)]
   rw[if_pos (by omega)];congr 1;omega
theorem zkY (a:Pn) {b:Pn} (hb:b.Ok):((zbe a b).map zgY).foldl zdb a=b:=by
 obtain⟨h1,h2,h3,h4⟩:=hb;simp only[zbe,List.map_append,List.foldl_append];rw[zgd a a.bo b.bo 1 22 (λv=>{a with bo:=v}) rfl rfl rfl];rw[zgd {a with bo:=b.bo} a.un b.un 4 24 (λv=>{a with bo:=b.bo,un:=v}) rfl rfl rfl];rw[zgd {a with bo:=b.bo,un:=b.un} a.re b.re 7 27 (λv=>{a with bo:=b.bo,un:=b.un,re:=v}) rfl rfl rfl];have e1:=zmu {a with bo:=b.bo,un:=b.un,re:=b.re} h1 h2;simp only at e1;rw[e1];have e2:=zox {a with bo:=b.bo,un:=b.un,re:=b.re,f:=b.f} h3 h4;simp only at e2;rw[e2]
theorem zqs {a b:Pn} (h:a≠b):zbe a b≠[]:=by
 intro e;apply h;have h1:∀ {x y:Bool} {m n:Nat},ZV x y m n=[]->x=y:=by
  intro x y m n q;unfold ZV at q;cases x<;>cases y<;>simp at q ⊢
 have h2:∀ {x y:Int} {m:Nat},zbO x y m=[]->x=y:=by
  intro x y m q;unfold zbO at q;split at q
  ·rename_i r;exact r.symm
  ·split at q<;>cases q
 simp only[zbe,List.append_eq_nil_iff] at e;obtain⟨⟨⟨⟨a1,a2⟩,a3⟩,a4⟩,a5⟩:=e;obtain⟨f,g,x,y,z⟩:=a;obtain⟨f',g',x',y',z'⟩:=b;have:=h1 a1;have:=h1 a2;have:=h1 a3;have:=h2 a4;have:=h2 a5;simp_all
theorem ziZ {s:Rs} (hB:s.B=⟨#[]⟩) {ts:List (Option Nat)} (hne:ts≠[]) (h:zbN ts) (hl:ts.length<=8):zj s (zaP 109 ts)={s with pen:=(ts.map zgY).foldl zdb s.pen}:=by
 cases ts with
 |nil=>exact absurd rfl hne
 |cons t r=>
  obtain⟨l,e,b⟩:=zbg hB 109 (by decide) (by decide) h hl;rw[e];unfold zJ;simp[zdf,b]
theorem zfO {s:Rs} (hB:s.B=⟨#[]⟩) {b:Pn} (hb:b.Ok):zj s (zcD s.pen b)={s with pen:=b}:=by
 unfold zcD;by_cases e:s.pen.eqB b=true
 ·rw[if_pos e,←Pn.eqB_iff.1 e];rfl
 ·rw[if_neg e];have hne:s.pen≠b:=λq=>e (Pn.eqB_iff.2 q);obtain⟨t1,l1⟩:=zdI s.pen hb;obtain⟨t2,l2⟩:=zdI Pn.plain hb;split
  ·rw[ziZ (ts:=none::zbe Pn.plain b) hB (by simp) (zc5 (a:=[none]) (λn hn=>by simp at hn) t2) (by simp;omega)];have:((none::zbe Pn.plain b).map zgY).foldl zdb s.pen=b:=zkY Pn.plain hb;rw[this]
  ·rw[ziZ hB (zqs hne) t1 (by omega),zkY s.pen hb]
theorem zoy (a:Pn):zcD a a=[]:=by unfold zcD;rw[if_pos (Pn.eqB_iff.2 rfl)]
theorem zkZ (a:Pn) {b:Pn} (hb:b.Ok):(zcD a b).length<=20:=by
 unfold zcD;split
 ·simp
 ·obtain⟨t2,l2⟩:=zdI Pn.plain hb;obtain⟨t1,l1⟩:=zdI a hb;have h1:=zdl 109 none (zbe Pn.plain b) (zc5 (a:=[none]) (λn hn=>by simp at hn) t2);split
  ·omega
  ·omega
theorem zoz (x:Bool) (m n:Nat):ZV x x m n=[]:=by unfold ZV;cases x<;>simp
theorem zqt (x:Int) (m:Nat):zbO x x m=[]:=by unfold zbO;rw[if_pos rfl]
theorem zoA (a:Pn) {v:Int} (h0:0<=v) (h1:v<=8):(zcD a {a with b:=v}).length<=5:=by
 have e:zbe a {a with b:=v}=zbO a.b v 40:=by simp[zbe,zoz,zqt]
 have hl:(zaP 109 (zbe a {a with b:=v})).length<=5:=by
  rw[e];have ht:=zhQ a.b h0 h1 (first:=40) (by omega);have hc:=zfN a.b v 40;generalize zbO a.b v 40=ts at *;match ts,hc with
  |[],_=>rw[zhO];omega
  |[t],_=>have:=zdl 109 t [] ht;simpa using this
 unfold zcD;split
 ·simp
 ·split
  ·omega
  ·exact hl
end
end Go.Proofs.YtjlfibhbfdckpaaGreatDoor
