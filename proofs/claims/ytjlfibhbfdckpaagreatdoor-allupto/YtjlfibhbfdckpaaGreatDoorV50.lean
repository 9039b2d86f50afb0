import Derived.Test.YtjlfibhbfdckpaaGreatDoorV13
import Derived.Test.YtjlfibhbfdckpaaGreatDoorV44
namespace Go.Proofs.YtjlfibhbfdckpaaGreatDoor
set_option maxHeartbeats 64000000
set_option maxRecDepth 100000
section
open Go.RowKit
open Wd (wd)
attribute [local go_sem ↓] Go.wp_at_zero Go.wp_at_succ
def zcF (s:Rs) (x y:Int):zk:=if inG s.W s.H x y=true then s.G x.toNat y.toNat else zbR
def zlF (s:Rs) (x y:Int):Int:=if inG s.W s.H x y=true then 0 else 4
theorem zwz (pc bs bg g N:Nat) (s:Rs) (x y:Int) (w:World) (h:zbI w pc bs bg g N s):
 Calls Tryz.prog 60 #[.pointer (some ⟨pc,0,none⟩),.int .i64 x,.int .i64 y] w λe w'=>e=.returned (.tuple #[(zcF s x y).agg,.int .i64 (zlF s x y)])/\Below w.heap.size w w':=by
 unfold zcF zlF;cases hin:inG s.W s.H x y with
 |true=>rw[if_pos rfl,if_pos rfl];exact zry pc bs bg g N s x y w h hin
 |false=>rw[if_neg (by decide),if_neg (by decide)];exact ztg pc bs bg g N s x y w h hin
def zgr (w:World) (b:Nat) (s:Rs):Prop:=w.heap[b]?=some (.cells #[.int .i64 s.W,.int .i64 s.H,.int .i64 s.x,.int .i64 s.y,.bool s.pend,.int .i64 s.pen.f,.int .i64 s.pen.b,.bool s.pen.bo,.bool s.pen.un,.bool s.pen.re,.int .i64 s.top,.int .i64 s.bot,.bool (zat s)] 59)
theorem zgr.below {w w':World} {b:Nat} {s:Rs} (h:zgr w b s) (hb:Below w.heap.size w w'):zgr w' b s:=by
 unfold zgr at *;rw[hb.block _ (Array.getElem?_eq_some_iff.1 h).1];exact h
theorem zgr.lt {w:World} {b:Nat} {s:Rs} (h:zgr w b s):b<w.heap.size:=(Array.getElem?_eq_some_iff.1 h).1
theorem zgr.c0 {w:World} {b:Nat} {s:Rs} (h:zgr w b s):w.cell? ⟨b,0,none⟩=some (.int .i64 s.W):=za h 0
theorem zgr.c1 {w:World} {b:Nat} {s:Rs} (h:zgr w b s):w.cell? ⟨b,1,none⟩=some (.int .i64 s.H):=za h 1
end
section
open Go.RowKit
attribute [local go_sem ↓] Go.wp_at_zero Go.wp_at_succ
structure zxl (B:Nat) (w:World) (pc bs bg:Nat) (s:Rs):Prop where
 at':∃g N,zbI w pc bs bg g N s/\B<=g
 u1:B<=pc
 u2:B<=bs
 u3:B<=bg
def zw9 (w:World) (a:Option Addr) (n:Nat) (ts:List ByteArray):Prop:=
 ∀k,k<n->∃b off,a=some ⟨b,off,none⟩/\b<w.heap.size/\w.cell? ⟨b,off+k,none⟩=some (.string (ts.getD k ByteArray.empty))/\(ts.getD k ByteArray.empty).size<=9223372036854775807
def zxa (w:World) (a:Option Addr) (n:Nat) (zs:List Int):Prop:=
 ∀k,k<n->∃b off,a=some ⟨b,off,none⟩/\b<w.heap.size/\w.cell? ⟨b,off+k,none⟩=some (.int .i64 (zs.getD k 0))/\-9223372036854775808<=zs.getD k 0/\zs.getD k 0<=9223372036854775807
end
section
open Go.RowKit
open Wd (wd)
attribute [local go_sem ↓] Go.wp_at_zero Go.wp_at_succ
theorem zmZ (pc bs bg g N:Nat) (s:Rs) (b:ByteArray) (w:World) (h:zbI w pc bs bg g N s) (T:ZY w) (hb:b.size<=9223372036854775807):
 Calls Tryz.prog 22 #[.pointer (some ⟨pc,0,none⟩),.string b] w λe w'=>e=.returned (.tuple #[])/\zbI w' pc bs bg g N (zj s b.data.toList)/\zd (λi=>i=bs\/i=bg\/i=g) w w':=by
 have HC:=zH h;have HT:=zH T;have c0:=h.c0;clear h T;go_in;go_wp2_with (first|(go_at_call 58;refine sM (zjr pc bs bg g N s _ HC.out) ?_));go_at_call 62;obtain⟨t,P,tie⟩:=HC.out.pr;have l1:=HC.out.l1;have l2:=HC.out.l2;have l3:=HC.out.l3;refine(zq8 bs bg g N s t b _ P HC.out.ok HT.out tie (by omega) (by omega) (by omega) (by omega) (by omega) (by omega) hb).mono ?_;rintro e wa ⟨rfl,P1,K1⟩;have HP1:=zH P1;clear P tie P1;go_wp2_with fail;go_end0;have q:=HC.out;exact⟨rfl,⟨by rw[K1.block _ q.lt (λh=>by have:=q.ne1;have:=q.ne2;have:=q.ne3;omega)];exact q.blk,HP1.out,ztf _ q.ok,q.ne1,q.ne2,q.ne3,l1,l2,l3⟩,K1⟩
def Own (lo hi:Nat) (w:World) (pc:Nat) (s:Rs):Prop:=
 ∃bs bg g N,zbI w pc bs bg g N s/\lo<=pc/\pc<hi/\lo<=bs/\bs<hi/\lo<=bg/\bg<hi/\lo<=g/\g<hi
structure Bk where
 pc:Nat
 bs:Nat
 bg:Nat
 g:Nat
 N:Nat
 rs:Nat
 rc:Nat
 rg:Nat
 cap:Nat
 M:Nat
def zej:Rs:=⟨0,0,0,0,false,Pn.plain,0,0,⟨#[0]⟩,0,λ_ _=>zbR⟩
theorem ziq:zat zej=false:=by unfold zat;rw[ByteArray.toList_eq];rfl
theorem zvb (x y:Int):inG zej.W zej.H x y=false:=by
 cases h:inG zej.W zej.H x y with
 |false=>rfl
 |true=>
  obtain⟨a,b,_,_⟩:=zu.1 h;have:zej.W=0:=rfl;omega
def zkc:Option (Bk × Rs)->Rs
 |none=>zej
 |some q=>q.2
def zlG (B:Option (Bk × Rs)) (x y:Int):Int:=match B with
 |none=>1
 |some q=>zlF q.2 x y
def ZN (w:World) (B:Option (Bk × Rs)) (x y:Option Addr):Prop:=match B with
 |none=>x=none/\y=none
 |some (k,s)=>x=some ⟨k.pc,0,none⟩/\y=some ⟨k.rs,0,none⟩/\zbI w k.pc k.bs k.bg k.g k.N s/\zi w k.rs k.rc k.rg k.cap k.M s/\BOk s.B
theorem ZN.below {w w':World} {B:Option (Bk × Rs)} {x y:Option Addr} (h:ZN w B x y) (b:Below w.heap.size w w'):ZN w' B x y:=by
 cases B with
 |none=>exact h
 |some q=>
  obtain⟨h1,h2,h3,h4,h5⟩:=h;exact⟨h1,h2,h3.below b,h4.below b,h5⟩
theorem ZN.drew {w:World} {B:Option (Bk × Rs)} {x y:Option Addr} (h:ZN w B x y):ZN w.drew B x y:=h.below (Zc w 1)
theorem zto (bs bc g cap N:Nat) (s:Rs) (x y:Int) (w:World) (h:zi w bs bc g cap N s):
 Calls Tryz.prog 70 #[.pointer (some ⟨bs,0,none⟩),.int .i64 x,.int .i64 y] w λe w'=>e=.returned (.tuple #[(zcF s x y).agg,.int .i64 (zlF s x y)])/\Below w.heap.size w w':=by
 unfold zcF zlF;cases hin:inG s.W s.H x y with
 |true=>rw[if_pos rfl,if_pos rfl];exact zd2 bs bc g cap N s x y w h hin
 |false=>rw[if_neg (by decide),if_neg (by decide)];exact ziV bs bc g cap N s x y w h hin
theorem zlH (x y:Int):zcF zej x y=zbR:=if_neg (by rw[zvb];decide)
section
variable {w:World} {B:Option (Bk × Rs)} {x y:Option Addr}
abbrev zlI (s:Rs):Value:=zcs s.W s.H s.x s.y s.pend s.pen s.top s.bot (zat s)
theorem zvc (h:ZN w B x y):Calls Tryz.prog 23 #[.pointer x] w λe w'=>e=.returned (zlI (zkc B))/\Below w.heap.size w w':=by
 cases B with
 |none=>
  obtain⟨rfl,rfl⟩:=h;have e:zlI (zkc none)=zcs 0 0 0 0 false Pn.plain 0 0 false:=by show zcs _ _ _ _ _ _ _ _ (zat zej)=_;rw[ziq];rfl
  rw[e];exact zpl w
 |some q=>
  obtain⟨rfl,rfl,C,R,_⟩:=h;exact zuY _ _ _ _ _ _ w C
theorem zvd (h:ZN w B x y):Calls Tryz.prog 69 #[.pointer y] w λe w'=>e=.returned (zlI (zkc B))/\Below w.heap.size w w':=by
 cases B with
 |none=>
  obtain⟨rfl,rfl⟩:=h;have e:zlI (zkc none)=zcs 0 0 0 0 false Pn.plain 0 0 false:=by show zcs _ _ _ _ _ _ _ _ (zat zej)=_;rw[ziq];rfl
  rw[e];exact zkH w
 |some q=>
  obtain⟨rfl,rfl,C,R,_⟩:=h;exact zfH _ _ _ _ _ _ w R
theorem zve (h:ZN w B x y) (a b:Int):Calls Tryz.prog 60 #[.pointer x,.int .i64 a,.int .i64 b] w λe w'=>e=.returned (.tuple #[(zcF (zkc B) a b).agg,.int .i64 (zlG B a b)])/\Below w.heap.size w w':=by
 cases B with
 |none=>
  obtain⟨rfl,rfl⟩:=h;show Calls _ _ _ _ λe w'=>e=.returned (.tuple #[(zcF zej a b).agg,.int .i64 1])/\_;rw[zlH];exact zrx a b w
 |some q=>
  obtain⟨rfl,rfl,C,R,_⟩:=h;exact zwz _ _ _ _ _ _ a b w C
theorem zvf (h:ZN w B x y) (a b:Int):Calls Tryz.prog 70 #[.pointer y,.int .i64 a,.int .i64 b] w λe w'=>e=.returned (.tuple #[(zcF (zkc B) a b).agg,.int .i64 (zlG B a b)])/\Below w.heap.size w w':=by
 cases B with
 |none=>
  obtain⟨rfl,rfl⟩:=h;show Calls _ _ _ _ λe w'=>e=.returned (.tuple #[(zcF zej a b).agg,.int .i64 1])/\_;rw[zlH];exact zmd a b w
 |some q=>
  obtain⟨rfl,rfl,C,R,_⟩:=h;exact zto _ _ _ _ _ _ a b w R
theorem zm0 (h:ZN w B x y):(zkc B).W<=40/\(zkc B).H<=20:=by
 cases B with
 |none=>exact⟨by decide,by decide⟩
 |some q=>obtain⟨_,_,C,_,_⟩:=h;exact⟨C.ok.w2,C.ok.h2⟩
def zda (w:World) (b:Nat) (x y:Option Addr):Prop:=w.heap[b]?=some (.cells #[.pointer x,.pointer y] 94)
theorem zda.below {w w':World} {b:Nat} {x y:Option Addr} (h:zda w b x y) (hb:Below w.heap.size w w'):zda w' b x y:=by
 unfold zda at *;rw[hb.block _ (Array.getElem?_eq_some_iff.1 h).1];exact h
theorem zda.lt {w:World} {b:Nat} {x y:Option Addr} (h:zda w b x y):b<w.heap.size:=(Array.getElem?_eq_some_iff.1 h).1
theorem zda.c0 {w:World} {b:Nat} {x y:Option Addr} (h:zda w b x y):w.cell? ⟨b,0,none⟩=some (.pointer x):=za h 0
theorem zda.c1 {w:World} {b:Nat} {x y:Option Addr} (h:zda w b x y):w.cell? ⟨b,1,none⟩=some (.pointer y):=za h 1
theorem zir (h:ZN w B x y):Calls Tryz.prog 68 #[.agg #[.pointer x,.pointer y]] w λe w'=>e=.returned (.bool true)/\Below w.heap.size w w':=by
 have HP:=zH h;obtain⟨W2,H2⟩:=zm0 h;clear h;go_in;go_wp2_with fail;have hbl:Below w.heap.size w (w.alloc (.cells #[.pointer x,.pointer y] 94)):=(Below.refl _ _).alloc (Nat.le_refl _) _;have HPp:Hid (zda (w.alloc (.cells #[.pointer x,.pointer y] 94)) w.heap.size x y):=zf w _;replace HP:=zH<|HP.out.below hbl
 have HB1:=zH hbl;obtain⟨Bp,hBp⟩:∃Bp,w.heap.size=Bp:=⟨_,rfl⟩;generalize w.alloc (.cells #[.pointer x,.pointer y] 94)=w0 at *;rw[hBp] at HPp;have HBp:=zH hBp;simp only[hBp];clear hbl hBp;generalize hss:zkc B=s at *;have hS0:=@zvc w0 B x y HP.out;have hR0:∀w',ZN w' B x y->Calls Tryz.prog 69 #[.pointer y] w' λe w''=>e=.returned (zlI s)/\Below w'.heap.size w' w'':=λw' q=>by have:=zvd q;rwa [hss] at this
 rw[hss] at hS0;have HR0:=zH hR0;have HcP:Hid (∀(a b:Int) w',ZN w' B x y->Calls Tryz.prog 60 #[.pointer x,.int .i64 a,.int .i64 b] w' λe w''=>e=.returned (.tuple #[(zcF s a b).agg,.int .i64 (zlG B a b)])/\Below w'.heap.size w' w''):=λa b w' q=>by have:=zve q a b;rwa [hss] at this
 have HcR:Hid (∀(a b:Int) w',ZN w' B x y->Calls Tryz.prog 70 #[.pointer y,.int .i64 a,.int .i64 b] w' λe w''=>e=.returned (.tuple #[(zcF s a b).agg,.int .i64 (zlG B a b)])/\Below w'.heap.size w' w''):=λa b w' q=>by have:=zvf q a b;rwa [hss] at this
 clear hR0 hss;go_at_call 23;refine hS0.mono ?_;rintro e wa ⟨rfl,b1⟩;clear hS0;replace HP:=zH<|HP.out.below b1
 replace HPp:=zH<|HPp.out.below b1
 replace HB1:=zH<|HB1.out.trans (b1.mono HB1.out.size)
 clear b1;have q0:=HPp.out.c0;have q1:=HPp.out.c1;go_wp2_with fail;generalize hWb:wa.alloc _=wb;have bb:Below wa.heap.size wa wb:=by rw[←hWb];exact(Below.refl _ _).alloc (Nat.le_refl _) _
 have St:zgr wb wa.heap.size s:=by rw[←hWb];exact zf wa _
 have HSt:=zH St;replace HP:=zH<|HP.out.below bb
 replace HPp:=zH<|HPp.out.below bb
 replace HB1:=zH<|HB1.out.trans (bb.mono HB1.out.size)
 generalize wa.heap.size=Bt at *;clear hWb bb St q0 q1;have q1:=HPp.out.c1;have t0:wb.cell? ⟨Bt,0,none⟩=some (.int .i64 s.W):=za HSt.out 0;have t1:wb.cell? ⟨Bt,1,none⟩=some (.int .i64 s.H):=za HSt.out 1;have t2:wb.cell? ⟨Bt,2,none⟩=some (.int .i64 s.x):=za HSt.out 2;have t3:wb.cell? ⟨Bt,3,none⟩=some (.int .i64 s.y):=za HSt.out 3;have t4:wb.cell? ⟨Bt,4,none⟩=some (.bool s.pend):=za HSt.out 4;have t5:wb.cell? ⟨Bt,5,none⟩=some (.int .i64 s.pen.f):=za HSt.out 5;have t6:wb.cell? ⟨Bt,6,none⟩=some (.int .i64 s.pen.b):=za HSt.out 6;have t7:wb.cell? ⟨Bt,7,none⟩=some (.bool s.pen.bo):=za HSt.out 7;have t8:wb.cell? ⟨Bt,8,none⟩=some (.bool s.pen.un):=za HSt.out 8;have t9:wb.cell? ⟨Bt,9,none⟩=some (.bool s.pen.re):=za HSt.out 9;have t10:wb.cell? ⟨Bt,10,none⟩=some (.int .i64 s.top):=za HSt.out 10;have t11:wb.cell? ⟨Bt,11,none⟩=some (.int .i64 s.bot):=za HSt.out 11;have t12:wb.cell? ⟨Bt,12,none⟩=some (.bool (zat s)):=za HSt.out 12;have lt:=HSt.out.lt;have ltp:=HPp.out.lt;have HD:=zH HP.out.drew;go_region_held3 (λw'=>w'.cell? ⟨Bt,0,none⟩=some (.int .i64 s.W)/\w'.cell? ⟨Bt,1,none⟩=some (.int .i64 s.H)/\w'.cell? ⟨Bt,2,none⟩=some (.int .i64 s.x)/\w'.cell? ⟨Bt,3,none⟩=some (.int .i64 s.y)/\w'.cell? ⟨Bt,4,none⟩=some (.bool s.pend)/\w'.cell? ⟨Bt,5,none⟩=some (.int .i64 s.pen.f)/\w'.cell? ⟨Bt,6,none⟩=some (.int .i64 s.pen.b)/\w'.cell? ⟨Bt,7,none⟩=some (.bool s.pen.bo)/\w'.cell? ⟨Bt,8,none⟩=some (.bool s.pen.un)/\w'.cell? ⟨Bt,9,none⟩=some (.bool s.pen.re)/\w'.cell? ⟨Bt,10,none⟩=some (.int .i64 s.top)/\w'.cell? ⟨Bt,11,none⟩=some (.int .i64 s.bot)/\w'.cell? ⟨Bt,12,none⟩=some (.bool (zat s))/\w'.cell? ⟨Bp,1,none⟩=some (.pointer y)) (simp[*]) (first|(go_at_call 69;refine(HR0.out _ HD.out).mono ?_;rintro e w2 ⟨rfl,b2⟩;have e1:=b2.cells (b:=Bt) lt;have e2:=b2.cells (b:=Bp) ltp;have B2:=zL b2));replace HP:=zH<|HP.out.below B2
 replace HPp:=zH<|HPp.out.below B2
 replace HB1:=zH<|HB1.out.trans (B2.mono HB1.out.size)
 replace HSt:=zH<|HSt.out.below B2
 clear t0 t1 t2 t3 t4 t5 t6 t7 t8 t9 t10 t11 t12 e1 e2 B2 HD b2 lt ltp q1;go_wp2_with fail;go_loopw[4] (λi w'=>∃k:Nat,k<=s.H+2/\i=.int .i64 ((k:Int)-1)/\ZN w' B x y/\zda w' Bp x y/\Below w.heap.size w w'/\zgr w' Bt s) (λi _=>s.H+2-(intOf i+1).toNat)
 case atStart=>exact⟨0,by omega,rfl,HP.out,HPp.out,HB1.out,HSt.out⟩
 case round=>
  obtain⟨k,hk,rfl,hP,hPp,hB,hS⟩:=hrel;clear HP HPp HB1 HSt;have HP:=zH hP;have HPp:=zH hPp;have HB1:=zH hB;have HSt:=zH hS;have t0:=hS.c0;have t1:=hS.c1;clear hP hPp hB hS;by_cases hlt:k<=s.H+1
  ·have hlt':(k:Int)-1<=s.H:=by omega
   have wk:IntKind.i64.wrap ((k:Int)-1+1)=k:=by rw[zm _ (by omega) (by omega)];omega
   go_wp2_with fail;clear t0 t1;go_loopw[5] (λi w'=>∃j:Nat,j<=s.W+2/\i=.int .i64 ((j:Int)-1)/\ZN w' B x y/\zda w' Bp x y/\Below w.heap.size w w'/\zgr w' Bt s) (λi _=>s.W+2-(intOf i+1).toNat)
   case atStart=>exact⟨0,by omega,rfl,HP.out,HPp.out,HB1.out,HSt.out⟩
   case round=>
    obtain⟨j,hkj,rfl,hP,hPp,hB,hS⟩:=hrel;clear HP HPp HB1 HSt;have HP:=zH hP;have HPp:=zH hPp;have HB1:=zH hB;have HSt:=zH hS;have t0:=hS.c0;have t1:=hS.c1;clear hP hPp hB hS;by_cases hltj:j<=s.W+1
    ·have hltj':(j:Int)-1<=s.W:=by omega
     have q0:=HPp.out.c0;go_wp2_with fail;clear t0 t1 q0;go_at_call 60;refine(HcP.out ((j:Int)-1) ((k:Int)-1) _ HP.out).mono ?_;rintro e w3 ⟨rfl,b3⟩;obtain⟨c,hc⟩:∃c,zcF s ((j:Int)-1) ((k:Int)-1)=c:=⟨_,rfl⟩;obtain⟨er,her⟩:∃er,zlG B ((j:Int)-1) ((k:Int)-1)=er:=⟨_,rfl⟩;rw[hc,her];replace HP:=zH<|HP.out.below b3
     replace HPp:=zH<|HPp.out.below b3
     replace HB1:=zH<|HB1.out.trans (b3.mono HB1.out.size)
     replace HSt:=zH<|HSt.out.below b3
     clear b3;have q1:=HPp.out.c1;have lq:=HPp.out.lt;go_wp2_with fail;generalize hw4:w3.alloc _=w4;have b4:Below w3.heap.size w3 w4:=by rw[←hw4];exact(Below.refl _ _).alloc (Nat.le_refl _) _
     have A4:zv w4 w3.heap.size 0 c:=by rw[←hw4];exact zcq w3 c _ rfl _
     replace HP:=zH<|HP.out.below b4
     replace HPp:=zH<|HPp.out.below b4
     replace HB1:=zH<|HB1.out.trans (b4.mono HB1.out.size)
     replace HSt:=zH<|HSt.out.below b4
     have l4:=A4.lt;generalize w3.heap.size=Bc at *;clear b4 hw4 q1 lq;go_at_call 70;refine(HcR.out ((j:Int)-1) ((k:Int)-1) _ HP.out).mono ?_;rintro e w5 ⟨rfl,b5⟩;rw[hc,her];replace HP:=zH<|HP.out.below b5
     replace HPp:=zH<|HPp.out.below b5
     replace HB1:=zH<|HB1.out.trans (b5.mono HB1.out.size)
     replace HSt:=zH<|HSt.out.below b5
     obtain⟨a0,a1,a2,a3,a4,a5,a6⟩:=A4.below b5 l4;simp only[Nat.zero_add] at a1 a2 a3 a4 a5 a6;replace l4:=Nat.lt_of_lt_of_le l4 b5.size;clear b5 A4;go_wp2_with fail;exact⟨⟨j+1,by omega,by simp,HP.out.below ((Below.refl _ _).alloc (Nat.le_refl _) _),HPp.out.below ((Below.refl _ _).alloc (Nat.le_refl _) _),HB1.out.trans (((Below.refl _ _).alloc (Nat.le_refl _) _).mono HB1.out.size),HSt.out.below ((Below.refl _ _).alloc (Nat.le_refl _) _)⟩,by simp only[intOf];omega⟩
    ·have hltj':¬(j:Int)-1<=s.W:=by omega
     go_wp2_with fail;exact⟨⟨k+1,by omega,by simp,HP.out,HPp.out,HB1.out,HSt.out⟩,by simp only[intOf];omega⟩
  ·have hlt':¬(k:Int)-1<=s.H:=by omega
   go_wp2_with fail;go_ret;exact⟨rfl,HB1.out⟩
end
end
section
open Go.RowKit
attribute [local go_sem ↓] Go.wp_at_zero Go.wp_at_succ
abbrev zeb (on sz W H lk:Int) (tx:ByteArray):Value:=.agg #[.int .i64 on,.int .i64 sz,.int .i64 W,.int .i64 H,.int .i64 lk,.string tx]
def zfz (w:World) (b:Nat) (on sz W H lk:Int) (tx:ByteArray):Prop:=w.heap[b]?=some (.cells #[.int .i64 on,.int .i64 sz,.int .i64 W,.int .i64 H,.int .i64 lk,.string tx] 99)
section
variable {w w':World} {b:Nat} {on sz W H lk:Int} {tx:ByteArray}
theorem zfz.keep {F:Nat->Prop} (h:zfz w b on sz W H lk tx) (k:zd F w w') (hF:¬F b):zfz w' b on sz W H lk tx:=by
 unfold zfz at *;rw[k.block _ (Array.getElem?_eq_some_iff.1 h).1 hF];exact h
theorem zfz.c2 (h:zfz w b on sz W H lk tx):w.cell? ⟨b,2,none⟩=some (.int .i64 W):=za h 2
theorem zfz.c3 (h:zfz w b on sz W H lk tx):w.cell? ⟨b,3,none⟩=some (.int .i64 H):=za h 3
theorem zfz.c4 (h:zfz w b on sz W H lk tx):w.cell? ⟨b,4,none⟩=some (.int .i64 lk):=za h 4
theorem zfz.c5 (h:zfz w b on sz W H lk tx):w.cell? ⟨b,5,none⟩=some (.string tx):=za h 5
end
theorem zda.keep {F:Nat->Prop} {w w':World} {b:Nat} {x y:Option Addr} (h:zda w b x y) (k:zd F w w') (hF:¬F b):zda w' b x y:=by
 unfold zda at *;rw[k.block _ (Array.getElem?_eq_some_iff.1 h).1 hF];exact h
theorem zi.keep {F:Nat->Prop} {w w':World} {bs bc g cap N:Nat} {s:Rs} (h:zi w bs bc g cap N s) (k:zd F w w') (h1:¬F bs) (h2:¬F bc) (h3:¬F g):zi w' bs bc g cap N s:=
 h.same (k.block _ h.lt h1) (k.block _ h.cels.lt h2) (k.block _ h.cels.glt h3)
theorem zrG (on sz W H lk:Int) (tx:ByteArray) (w:World):
 Calls Tryz.prog 67 #[.agg #[.pointer none,.pointer none],zeb on sz W H lk tx] w λe w'=>e=.returned (.bool true)/\Below w.heap.size w w':=by
 cases hz:(sz.tmod 2==0)<;>cases hl:(lk.tmod 2==0);all_goals
  have hz':(sz.tmod 2 != 0)=_:=congrArg (λb=>!b) hz;have hl':(lk.tmod 2 != 0)=_:=congrArg (λb=>!b) hl;go_in;go_wp2_with (first|(go_at_call 19;refine sM (zmP _ _ _) ?_)|(go_at_call 38;refine sM (zfI _ _ _) ?_)|(go_at_call 22;refine sM (zrw _ _) ?_)|(go_at_call 72;refine sM (zmU _ _) ?_));first
   |(go_at_call 68
     refine(zir (B:=none) (x:=none) (y:=none) ⟨rfl,rfl⟩).mono ?_;rintro e w' ⟨rfl,b⟩;go_wp2_with fail;go_ret;exact⟨rfl,(((Below.refl _ _).alloc (Nat.le_refl _) _).alloc (by simp) _).trans (b.mono (by simp;omega))⟩)
   |(go_ret
     exact⟨rfl,((Below.refl _ _).alloc (Nat.le_refl _) _).alloc (by simp) _⟩)
def znI (pc bs bg g rs rc rg:Nat) (s:Rs) (tx:ByteArray) (w:World) (e:Ending) (w':World):Prop:=
 ∃g' N' rg' cap' M' s',e=.returned (.bool true)/\zbI w' pc bs bg g' N' s'/\zi w' rs rc rg' cap' M' s'/\BOk s'.B/\zd (λi=>i=bs\/i=bg\/i=g\/i=rs\/i=rc\/i=rg) w w'/\(g'=g\/w.heap.size<=g')/\(rg'=rg\/w.heap.size<=rg')/\g'≠rg'/\s'.B.size<=s.B.size+tx.size
theorem zgs (l:List UInt8):∀ {s:Rs},BOk s.B->(zj s l).B.size<=s.B.size+l.length/\BOk (zj s l).B:=by
 induction l with
 |nil=>intro s h;exact⟨Nat.le_refl _,h⟩
 |cons c r ih=>
  intro s h;have a:=zkx h c;have b:=ih (ztx h c);refine⟨?_,b.2⟩;have:=b.1;show(zj (za3 s c) r).B.size<=_;simp only[List.length_cons];omega
theorem zgt {a b c g g1 n:Nat} (h:¬(a=b\/a=c\/a=g)) (hg:g1=g\/n<=g1) (ha:a<n):¬(a=b\/a=c\/a=g1):=by
 rcases hg with rfl|hg
 ·exact h
 ·rintro(q|q|q)
  ·exact h (Or.inl q)
  ·exact h (Or.inr (Or.inl q))
  ·omega
theorem zwA {a b c g g1 n:Nat} (h:¬(g=a\/g=b\/g=c)) (hg:g1=g\/n<=g1) (ha:a<n) (hb:b<n) (hc:c<n):¬(g1=a\/g1=b\/g1=c):=by
 rcases hg with rfl|hg
 ·exact h
 ·omega
theorem zwB {a b g g1 r r1 n m:Nat} (h:¬(g=a\/g=b\/g=r)) (hg:g1=g\/n<=g1) (hr:r1=r\/m<=r1) (hm:g1<m) (hn:r<n):g1≠r1:=by
 rcases hr with rfl|hr
 ·rcases hg with rfl|hg
  ·exact λe=>h (Or.inr (Or.inr e))
  ·omega
 ·omega
theorem zwC {b c g g1 r r1 n:Nat} (h:¬(r=b\/r=c\/r=g)) (hr:r1=r\/n<=r1) (hb:b<n) (hc:c<n) (hne:g1≠r1):¬(r1=b\/r1=c\/r1=g1):=by
 rcases hr with rfl|hr
 ·rintro(q|q|q)
  ·exact h (Or.inl q)
  ·exact h (Or.inr (Or.inl q))
  ·exact hne q.symm
 ·rintro(q|q|q)
  ·omega
  ·omega
  ·exact hne q.symm
theorem zvg {a b g g1 r r1 n:Nat} (h:¬(g=a\/g=b\/g=r)) (hg:g1=g\/n<=g1) (ha:a<n) (hb:b<n) (hne:g1≠r1):¬(g1=a\/g1=b\/g1=r1):=by
 rcases hg with rfl|hg
 ·rintro(q|q|q)
  ·exact h (Or.inl q)
  ·exact h (Or.inr (Or.inl q))
  ·exact hne q
 ·rintro(q|q|q)
  ·omega
  ·omega
  ·exact hne q
theorem zvh {g r r2 m:Nat} (h:g≠r) (hr:r2=r\/m<=r2) (hm:g<m):g≠r2:=by
 rcases hr with rfl|hr
 ·exact h
 ·omega
theorem zm1 {i bs bg g rs rc rg:Nat} (h:i=bs\/i=bg\/i=g):i=bs\/i=bg\/i=g\/i=rs\/i=rc\/i=rg:=by omega
theorem zm2 {i bs bg g rs rc rg:Nat} (h:i=rs\/i=rc\/i=rg):i=bs\/i=bg\/i=g\/i=rs\/i=rc\/i=rg:=by omega
theorem keepP {i n bs bg g g1 rs rc rg:Nat} (hi:i<n) (hg:g1=g\/n+2<=g1) (h:i=bs\/i=bg\/i=g1):i=bs\/i=bg\/i=g\/i=rs\/i=rc\/i=rg:=by omega
theorem ztP {i n bs bg g rs rc rg r1:Nat} (hi:i<n) (hr:r1=rg\/n+2<=r1) (h:i=rs\/i=rc\/i=r1):i=bs\/i=bg\/i=g\/i=rs\/i=rc\/i=rg:=by omega
theorem zvi (pc bs bg g N rs rc rg cap M:Nat) (s:Rs) (on sz:Int) (W H:Int) (lk:Int) (tx:ByteArray) (w:World) (C:zbI w pc bs bg g N s) (R:zi w rs rc rg cap M s) (hB:BOk s.B) (T:ZY w)
 (hsep:∀i,(i=pc\/i=bs\/i=bg\/i=g)->¬(i=rs\/i=rc\/i=rg)) (hr:2<=rs/\2<=rc/\2<=rg) (hz:(sz.tmod 2==0)=true) (hb:s.B.size+tx.size<=100000000000):
 Calls Tryz.prog 67 #[.agg #[.pointer (some ⟨pc,0,none⟩),.pointer (some ⟨rs,0,none⟩)],zeb on sz W H lk tx] w (znI pc bs bg g rs rc rg s tx w):=by
 have hz':(sz.tmod 2 != 0) = !true:=by simp only[bne,hz]
 have HsR:Hid (¬(pc=rs\/pc=rc\/pc=rg)/\¬(bs=rs\/bs=rc\/bs=rg)/\¬(bg=rs\/bg=rc\/bg=rg)/\¬(g=rs\/g=rc\/g=rg)):=⟨hsep pc (Or.inl rfl),hsep bs (Or.inr (Or.inl rfl)),hsep bg (Or.inr (Or.inr (Or.inl rfl))),hsep g (Or.inr (Or.inr (Or.inr rfl)))⟩;have HsP:Hid (¬(rs=bs\/rs=bg\/rs=g)/\¬(rc=bs\/rc=bg\/rc=g)/\¬(rg=bs\/rg=bg\/rg=g)):=⟨λh=>hsep rs (Or.inr h) (Or.inl rfl),λh=>hsep rc (Or.inr h) (Or.inr (Or.inl rfl)),λh=>hsep rg (Or.inr h) (Or.inr (Or.inr rfl))⟩;have Hlt:Hid ((pc<w.heap.size/\bs<w.heap.size/\bg<w.heap.size/\g<w.heap.size)/\(rs<w.heap.size/\rc<w.heap.size/\rg<w.heap.size)/\(2<=bs/\2<=bg/\2<=g)/\(2<=rs/\2<=rc/\2<=rg)):=by
  obtain⟨t,P,_⟩:=C.pr;exact⟨⟨C.lt,P.lt,P.gr.lt,P.gr.glt⟩,⟨R.lt,R.cels.lt,R.cels.glt⟩,⟨C.l1,C.l2,C.l3⟩,hr⟩
 have HC:=zH C;have HR:=zH R;have HB:=zH hB;have HT:=zH T;have HOK:=zH C.ok;clear C R hB T hsep hr;go_in;go_wp2_with fail;have hbl:Below w.heap.size w ((w.alloc (.cells #[.pointer (some ⟨pc,0,none⟩),.pointer (some ⟨rs,0,none⟩)] 94)).alloc (.cells #[.int .i64 on,.int .i64 sz,.int .i64 W,.int .i64 H,.int .i64 lk,.string tx] 99)):=((Below.refl _ _).alloc (Nat.le_refl _) _).alloc (by simp) _;have hs0:((w.alloc (.cells #[.pointer (some ⟨pc,0,none⟩),.pointer (some ⟨rs,0,none⟩)] 94)).alloc (.cells #[.int .i64 on,.int .i64 sz,.int .i64 W,.int .i64 H,.int .i64 lk,.string tx] 99)).heap.size=w.heap.size+2:=by simp
 have HF:Hid (zfz ((w.alloc (.cells #[.pointer (some ⟨pc,0,none⟩),.pointer (some ⟨rs,0,none⟩)] 94)).alloc (.cells #[.int .i64 on,.int .i64 sz,.int .i64 W,.int .i64 H,.int .i64 lk,.string tx] 99)) (w.heap.size+1) on sz W H lk tx):=by
  show _=_;have:=zf (w.alloc (.cells #[.pointer (some ⟨pc,0,none⟩),.pointer (some ⟨rs,0,none⟩)] 94)) (.cells #[.int .i64 on,.int .i64 sz,.int .i64 W,.int .i64 H,.int .i64 lk,.string tx] 99);rwa [size_alloc] at this
 have HPp:Hid (zda ((w.alloc (.cells #[.pointer (some ⟨pc,0,none⟩),.pointer (some ⟨rs,0,none⟩)] 94)).alloc (.cells #[.int .i64 on,.int .i64 sz,.int .i64 W,.int .i64 H,.int .i64 lk,.string tx] 99)) w.heap.size (some ⟨pc,0,none⟩) (some ⟨rs,0,none⟩)):=by
  show _=_;rw[Below.heap_alloc _ _ _ (by simp)];exact zf w _
 replace HC:=zH<|HC.out.below hbl
 replace HR:=zH<|HR.out.below hbl
 replace HT:=zH<|HT.out.below hbl
 have HK:Hid (zd (λi=>i=bs\/i=bg\/i=g\/i=rs\/i=rc\/i=rg) w ((w.alloc (.cells #[.pointer (some ⟨pc,0,none⟩),.pointer (some ⟨rs,0,none⟩)] 94)).alloc (.cells #[.int .i64 on,.int .i64 sz,.int .i64 W,.int .i64 H,.int .i64 lk,.string tx] 99))):=zd.below _ hbl;generalize (w.alloc (.cells #[.pointer (some ⟨pc,0,none⟩),.pointer (some ⟨rs,0,none⟩)] 94)).alloc (.cells #[.int .i64 on,.int .i64 sz,.int .i64 W,.int .i64 H,.int .i64 lk,.string tx] 99)=wa at *;clear hbl;have q0:=HPp.out.c0;have q1:=HPp.out.c1;have f4:=HF.out.c4;have f5:=HF.out.c5;go_wp2_with fail;go_at_call 22;refine(zmZ pc bs bg g N s tx _ HC.out HT.out (by omega)).mono ?_;rintro e wd ⟨rfl,C2,K2⟩;clear HC;have HC:=zH C2;replace HR:=zH<|HR.out.keep K2 HsP.out.1 HsP.out.2.1 HsP.out.2.2
 replace HT:=zH<|HT.out.keep K2 (by have:=Hlt.out;omega) (by have:=Hlt.out;omega)
 replace HK:=zH<|HK.out.trans K2 (λi _ h=>zm1 h)
 have zwd:=K2.size;replace HF:=zH<|HF.out.keep K2 (by have:=Hlt.out;omega)
 replace HPp:=zH<|HPp.out.keep K2 (by have:=Hlt.out;omega)
 clear C2 K2 q0 q1 f4 f5;have q0:=HPp.out.c0;have q1:=HPp.out.c1;have f5:=HF.out.c5;go_wp2_with fail;go_at_call 72;refine(zhe rs rc rg cap M s tx _ HR.out HOK.out HB.out (hb)).mono ?_;rintro e we ⟨rg2,cap2,M2,rfl,R2,K2,hr2⟩;clear HR;have HR:=zH R2;replace HC:=zH<|HC.out.keep K2 HsR.out.1 HsR.out.2.1 HsR.out.2.2.1 HsR.out.2.2.2
 replace HT:=zH<|HT.out.keep K2 (by have:=Hlt.out;omega) (by have:=Hlt.out;omega)
 replace HK:=zH<|HK.out.trans K2 (λi _ h=>zm2 h)
 have zwe:=K2.size;replace HF:=zH<|HF.out.keep K2 (by have:=Hlt.out;omega)
 replace HPp:=zH<|HPp.out.keep K2 (by have:=Hlt.out;omega)
 have hr2':rg2=rg\/w.heap.size<=rg2:=by omega
 have hne2:=zvh (λe=>HsR.out.2.2.2 (Or.inr (Or.inr e))) (show rg2=rg\/wd.heap.size<=rg2 from hr2) (by have:=Hlt.out;omega);have Hsz:Hid ((zj s tx.data.toList).B.size<=s.B.size+tx.size/\BOk (zj s tx.data.toList).B):=by
  have q:=zgs tx.data.toList HB.out;refine⟨?_,q.2⟩;have a:=q.1;exact a
 clear R2 K2 q0 q1 f5;cases hl:(lk.tmod 2==0);all_goals as_aux_lemma=>
  have hl':(lk.tmod 2 != 0)=_:=congrArg (λb=>!b) hl;have f4:=HF.out.c4;have q0:=HPp.out.c0;have q1:=HPp.out.c1;go_wp2_with fail;first
   |(go_at_call 68
     refine(zir (B:=some (⟨pc,bs,bg,g,N,rs,rc,rg2,cap2,M2⟩,zj s tx.data.toList)) ⟨rfl,rfl,HC.out,HR.out,Hsz.out.2⟩).mono ?_;rintro e wf ⟨rfl,b6⟩;replace HC:=zH<|HC.out.below b6
     replace HR:=zH<|HR.out.below b6
     replace HK:=zH<|HK.out.thenBelow b6
     clear b6;go_wp2_with fail)
   |skip
  go_ret;exact⟨g,N,rg2,cap2,M2,zj s tx.data.toList,rfl,HC.out,HR.out,Hsz.out.2,HK.out,by omega,hr2',hne2,Hsz.out.1⟩
theorem zvj (pc bs bg g N rs rc rg cap M:Nat) (s:Rs) (on sz:Int) (W H:Int) (lk:Int) (tx:ByteArray) (w:World) (C:zbI w pc bs bg g N s) (R:zi w rs rc rg cap M s) (hB:BOk s.B) (T:ZY w)
 (hsep:∀i,(i=pc\/i=bs\/i=bg\/i=g)->¬(i=rs\/i=rc\/i=rg)) (hr:2<=rs/\2<=rc/\2<=rg) (hz:(sz.tmod 2==0)=false) (hs:ZC W H=false) (hb:s.B.size+tx.size<=100000000000):
 Calls Tryz.prog 67 #[.agg #[.pointer (some ⟨pc,0,none⟩),.pointer (some ⟨rs,0,none⟩)],zeb on sz W H lk tx] w (znI pc bs bg g rs rc rg s tx w):=by
 have hz':(sz.tmod 2 != 0) = !false:=by simp only[bne,hz]
 have HsR:Hid (¬(pc=rs\/pc=rc\/pc=rg)/\¬(bs=rs\/bs=rc\/bs=rg)/\¬(bg=rs\/bg=rc\/bg=rg)/\¬(g=rs\/g=rc\/g=rg)):=⟨hsep pc (Or.inl rfl),hsep bs (Or.inr (Or.inl rfl)),hsep bg (Or.inr (Or.inr (Or.inl rfl))),hsep g (Or.inr (Or.inr (Or.inr rfl)))⟩;have HsP:Hid (¬(rs=bs\/rs=bg\/rs=g)/\¬(rc=bs\/rc=bg\/rc=g)/\¬(rg=bs\/rg=bg\/rg=g)):=⟨λh=>hsep rs (Or.inr h) (Or.inl rfl),λh=>hsep rc (Or.inr h) (Or.inr (Or.inl rfl)),λh=>hsep rg (Or.inr h) (Or.inr (Or.inr rfl))⟩;have Hlt:Hid ((pc<w.heap.size/\bs<w.heap.size/\bg<w.heap.size/\g<w.heap.size)/\(rs<w.heap.size/\rc<w.heap.size/\rg<w.heap.size)/\(2<=bs/\2<=bg/\2<=g)/\(2<=rs/\2<=rc/\2<=rg)):=by
  obtain⟨t,P,_⟩:=C.pr;exact⟨⟨C.lt,P.lt,P.gr.lt,P.gr.glt⟩,⟨R.lt,R.cels.lt,R.cels.glt⟩,⟨C.l1,C.l2,C.l3⟩,hr⟩
 have HC:=zH C;have HR:=zH R;have HB:=zH hB;have HT:=zH T;have HOK:=zH C.ok;clear C R hB T hsep hr;go_in;go_wp2_with fail;have hbl:Below w.heap.size w ((w.alloc (.cells #[.pointer (some ⟨pc,0,none⟩),.pointer (some ⟨rs,0,none⟩)] 94)).alloc (.cells #[.int .i64 on,.int .i64 sz,.int .i64 W,.int .i64 H,.int .i64 lk,.string tx] 99)):=((Below.refl _ _).alloc (Nat.le_refl _) _).alloc (by simp) _;have hs0:((w.alloc (.cells #[.pointer (some ⟨pc,0,none⟩),.pointer (some ⟨rs,0,none⟩)] 94)).alloc (.cells #[.int .i64 on,.int .i64 sz,.int .i64 W,.int .i64 H,.int .i64 lk,.string tx] 99)).heap.size=w.heap.size+2:=by simp
 have HF:Hid (zfz ((w.alloc (.cells #[.pointer (some ⟨pc,0,none⟩),.pointer (some ⟨rs,0,none⟩)] 94)).alloc (.cells #[.int .i64 on,.int .i64 sz,.int .i64 W,.int .i64 H,.int .i64 lk,.string tx] 99)) (w.heap.size+1) on sz W H lk tx):=by
  show _=_;have:=zf (w.alloc (.cells #[.pointer (some ⟨pc,0,none⟩),.pointer (some ⟨rs,0,none⟩)] 94)) (.cells #[.int .i64 on,.int .i64 sz,.int .i64 W,.int .i64 H,.int .i64 lk,.string tx] 99);rwa [size_alloc] at this
 have HPp:Hid (zda ((w.alloc (.cells #[.pointer (some ⟨pc,0,none⟩),.pointer (some ⟨rs,0,none⟩)] 94)).alloc (.cells #[.int .i64 on,.int .i64 sz,.int .i64 W,.int .i64 H,.int .i64 lk,.string tx] 99)) w.heap.size (some ⟨pc,0,none⟩) (some ⟨rs,0,none⟩)):=by
  show _=_;rw[Below.heap_alloc _ _ _ (by simp)];exact zf w _
 replace HC:=zH<|HC.out.below hbl
 replace HR:=zH<|HR.out.below hbl
 replace HT:=zH<|HT.out.below hbl
 have HK:Hid (zd (λi=>i=bs\/i=bg\/i=g\/i=rs\/i=rc\/i=rg) w ((w.alloc (.cells #[.pointer (some ⟨pc,0,none⟩),.pointer (some ⟨rs,0,none⟩)] 94)).alloc (.cells #[.int .i64 on,.int .i64 sz,.int .i64 W,.int .i64 H,.int .i64 lk,.string tx] 99))):=zd.below _ hbl;generalize (w.alloc (.cells #[.pointer (some ⟨pc,0,none⟩),.pointer (some ⟨rs,0,none⟩)] 94)).alloc (.cells #[.int .i64 on,.int .i64 sz,.int .i64 W,.int .i64 H,.int .i64 lk,.string tx] 99)=wa at *;clear hbl;go_at_call 19;refine(zpk pc bs bg g N s W H _ HC.out hs).mono ?_;rintro e wb ⟨g1,N1,rfl,C1,K1,hg1⟩;clear HC;have HC:=zH C1;replace HR:=zH<|HR.out.keep K1 HsP.out.1 HsP.out.2.1 HsP.out.2.2
 replace HT:=zH<|HT.out.keep K1 (by have:=Hlt.out;omega) (by have:=Hlt.out;omega)
 replace HK:=zH<|HK.out.trans K1 (λi _ h=>zm1 h)
 have zwb:=K1.size;replace HF:=zH<|HF.out.keep K1 (by have:=Hlt.out;omega)
 replace HPp:=zH<|HPp.out.keep K1 (by have:=Hlt.out;omega)
 have lg1:g1<wb.heap.size:=by obtain⟨t,P,_⟩:=HC.out.pr;exact P.gr.glt
 have hg1':g1=g\/w.heap.size+2<=g1:=by omega
 clear C1 K1 hg1;have q0:=HPp.out.c0;have q1:=HPp.out.c1;have f2:=HF.out.c2;have f3:=HF.out.c3;go_wp2_with fail;go_at_call 38;refine(zgF rs rc rg cap M s W H _ HR.out hs).mono ?_;rintro e wc ⟨rg1,cap1,M1,rfl,R1,K1,hr1⟩;clear HR;have HR:=zH R1;replace HC:=zH<|HC.out.keep K1 HsR.out.1 HsR.out.2.1 HsR.out.2.2.1 (zwA HsR.out.2.2.2 hg1' (by have:=Hlt.out;omega) (by have:=Hlt.out;omega) (by have:=Hlt.out;omega))
 replace HT:=zH<|HT.out.keep K1 (by have:=Hlt.out;omega) (by have:=Hlt.out;omega)
 replace HK:=zH<|HK.out.trans K1 (λi _ h=>zm2 h)
 have zwc:=K1.size;replace HF:=zH<|HF.out.keep K1 (by have:=Hlt.out;omega)
 replace HPp:=zH<|HPp.out.keep K1 (by have:=Hlt.out;omega)
 have lr1:=HR.out.cels.glt;have hr1':rg1=rg\/w.heap.size+2<=rg1:=by omega
 have hne1:=zwB HsR.out.2.2.2 hg1' (show rg1=rg\/wb.heap.size<=rg1 from hr1) lg1 (by have:=Hlt.out;omega);have HsQ:=zH<|zwC HsP.out.2.2 hr1' (by have:=Hlt.out;omega) (by have:=Hlt.out;omega) hne1
 have HsS:=zH<|zvg HsR.out.2.2.2 hg1' (by have:=Hlt.out;omega) (by have:=Hlt.out;omega) hne1
 clear R1 K1 hr1 q0 q1 f2 f3;have q0:=HPp.out.c0;have q1:=HPp.out.c1;have f4:=HF.out.c4;have f5:=HF.out.c5;go_wp2_with fail;go_at_call 22;refine(zmZ pc bs bg g1 N1 s tx _ HC.out HT.out (by omega)).mono ?_;rintro e wd ⟨rfl,C2,K2⟩;clear HC;have HC:=zH C2;replace HR:=zH<|HR.out.keep K2 (zgt HsP.out.1 hg1' (by have:=Hlt.out;omega)) (zgt HsP.out.2.1 hg1' (by have:=Hlt.out;omega)) HsQ.out
 replace HT:=zH<|HT.out.keep K2 (by have:=Hlt.out;omega) (by have:=Hlt.out;omega)
 replace HK:=zH<|HK.out.trans K2 (λi hi h=>keepP hi hg1' h)
 have zwd:=K2.size;replace HF:=zH<|HF.out.keep K2 (by have:=Hlt.out;omega)
 replace HPp:=zH<|HPp.out.keep K2 (by have:=Hlt.out;omega)
 clear C2 K2 q0 q1 f4 f5;have q0:=HPp.out.c0;have q1:=HPp.out.c1;have f5:=HF.out.c5;go_wp2_with fail;go_at_call 72;refine(zhe rs rc rg1 cap1 M1 s tx _ HR.out HOK.out HB.out (hb)).mono ?_;rintro e we ⟨rg2,cap2,M2,rfl,R2,K2,hr2⟩;clear HR;have HR:=zH R2;replace HC:=zH<|HC.out.keep K2 (zgt HsR.out.1 hr1' (by have:=Hlt.out;omega)) (zgt HsR.out.2.1 hr1' (by have:=Hlt.out;omega)) (zgt HsR.out.2.2.1 hr1' (by have:=Hlt.out;omega)) HsS.out
 replace HT:=zH<|HT.out.keep K2 (by have:=Hlt.out;omega) (by have:=Hlt.out;omega)
 replace HK:=zH<|HK.out.trans K2 (λi hi h=>ztP hi hr1' h)
 have zwe:=K2.size;replace HF:=zH<|HF.out.keep K2 (by have:=Hlt.out;omega)
 replace HPp:=zH<|HPp.out.keep K2 (by have:=Hlt.out;omega)
 have hr2':rg2=rg\/w.heap.size<=rg2:=by omega
 have hne2:=zvh hne1 (show rg2=rg1\/wd.heap.size<=rg2 from hr2) (by omega);have Hsz:Hid ((zj s tx.data.toList).B.size<=s.B.size+tx.size/\BOk (zj s tx.data.toList).B):=by
  have q:=zgs tx.data.toList HB.out;refine⟨?_,q.2⟩;have a:=q.1;exact a
 clear R2 K2 q0 q1 f5;cases hl:(lk.tmod 2==0);all_goals as_aux_lemma=>
  have hl':(lk.tmod 2 != 0)=_:=congrArg (λb=>!b) hl;have f4:=HF.out.c4;have q0:=HPp.out.c0;have q1:=HPp.out.c1;go_wp2_with fail;first
   |(go_at_call 68
     refine(zir (B:=some (⟨pc,bs,bg,g1,N1,rs,rc,rg2,cap2,M2⟩,zj s tx.data.toList)) ⟨rfl,rfl,HC.out,HR.out,Hsz.out.2⟩).mono ?_;rintro e wf ⟨rfl,b6⟩;replace HC:=zH<|HC.out.below b6
     replace HR:=zH<|HR.out.below b6
     replace HK:=zH<|HK.out.thenBelow b6
     clear b6;go_wp2_with fail)
   |skip
  go_ret;exact⟨g1,N1,rg2,cap2,M2,zj s tx.data.toList,rfl,HC.out,HR.out,Hsz.out.2,HK.out,by omega,hr2',hne2,Hsz.out.1⟩
theorem zvk (pc bs bg g N rs rc rg cap M:Nat) (s:Rs) (on sz:Int) (W H:Nat) (lk:Int) (tx:ByteArray) (w:World) (C:zbI w pc bs bg g N s) (R:zi w rs rc rg cap M s) (hB:BOk s.B) (T:ZY w)
 (hsep:∀i,(i=pc\/i=bs\/i=bg\/i=g)->¬(i=rs\/i=rc\/i=rg)) (hr:2<=rs/\2<=rc/\2<=rg) (hz:(sz.tmod 2==0)=false) (w1:1<=W) (w2:W<=40) (h1:1<=H) (h2:H<=20) (hb:s.B.size+tx.size<=100000000000):
 Calls Tryz.prog 67 #[.agg #[.pointer (some ⟨pc,0,none⟩),.pointer (some ⟨rs,0,none⟩)],zeb on sz W H lk tx] w (znI pc bs bg g rs rc rg s tx w):=by
 have hz':(sz.tmod 2 != 0) = !false:=by simp only[bne,hz]
 have HsR:Hid (¬(pc=rs\/pc=rc\/pc=rg)/\¬(bs=rs\/bs=rc\/bs=rg)/\¬(bg=rs\/bg=rc\/bg=rg)/\¬(g=rs\/g=rc\/g=rg)):=⟨hsep pc (Or.inl rfl),hsep bs (Or.inr (Or.inl rfl)),hsep bg (Or.inr (Or.inr (Or.inl rfl))),hsep g (Or.inr (Or.inr (Or.inr rfl)))⟩;have HsP:Hid (¬(rs=bs\/rs=bg\/rs=g)/\¬(rc=bs\/rc=bg\/rc=g)/\¬(rg=bs\/rg=bg\/rg=g)):=⟨λh=>hsep rs (Or.inr h) (Or.inl rfl),λh=>hsep rc (Or.inr h) (Or.inr (Or.inl rfl)),λh=>hsep rg (Or.inr h) (Or.inr (Or.inr rfl))⟩;have Hlt:Hid ((pc<w.heap.size/\bs<w.heap.size/\bg<w.heap.size/\g<w.heap.size)/\(rs<w.heap.size/\rc<w.heap.size/\rg<w.heap.size)/\(2<=bs/\2<=bg/\2<=g)/\(2<=rs/\2<=rc/\2<=rg)):=by
  obtain⟨t,P,_⟩:=C.pr;exact⟨⟨C.lt,P.lt,P.gr.lt,P.gr.glt⟩,⟨R.lt,R.cels.lt,R.cels.glt⟩,⟨C.l1,C.l2,C.l3⟩,hr⟩
 have HC:=zH C;have HR:=zH R;have HB:=zH hB;have HT:=zH T;have HOK:=zH C.ok;clear C R hB T hsep hr;go_in;go_wp2_with fail;have hbl:Below w.heap.size w ((w.alloc (.cells #[.pointer (some ⟨pc,0,none⟩),.pointer (some ⟨rs,0,none⟩)] 94)).alloc (.cells #[.int .i64 on,.int .i64 sz,.int .i64 W,.int .i64 H,.int .i64 lk,.string tx] 99)):=((Below.refl _ _).alloc (Nat.le_refl _) _).alloc (by simp) _;have hs0:((w.alloc (.cells #[.pointer (some ⟨pc,0,none⟩),.pointer (some ⟨rs,0,none⟩)] 94)).alloc (.cells #[.int .i64 on,.int .i64 sz,.int .i64 W,.int .i64 H,.int .i64 lk,.string tx] 99)).heap.size=w.heap.size+2:=by simp
 have HF:Hid (zfz ((w.alloc (.cells #[.pointer (some ⟨pc,0,none⟩),.pointer (some ⟨rs,0,none⟩)] 94)).alloc (.cells #[.int .i64 on,.int .i64 sz,.int .i64 W,.int .i64 H,.int .i64 lk,.string tx] 99)) (w.heap.size+1) on sz W H lk tx):=by
  show _=_;have:=zf (w.alloc (.cells #[.pointer (some ⟨pc,0,none⟩),.pointer (some ⟨rs,0,none⟩)] 94)) (.cells #[.int .i64 on,.int .i64 sz,.int .i64 W,.int .i64 H,.int .i64 lk,.string tx] 99);rwa [size_alloc] at this
 have HPp:Hid (zda ((w.alloc (.cells #[.pointer (some ⟨pc,0,none⟩),.pointer (some ⟨rs,0,none⟩)] 94)).alloc (.cells #[.int .i64 on,.int .i64 sz,.int .i64 W,.int .i64 H,.int .i64 lk,.string tx] 99)) w.heap.size (some ⟨pc,0,none⟩) (some ⟨rs,0,none⟩)):=by
  show _=_;rw[Below.heap_alloc _ _ _ (by simp)];exact zf w _
 replace HC:=zH<|HC.out.below hbl
 replace HR:=zH<|HR.out.below hbl
 replace HT:=zH<|HT.out.below hbl
 have HK:Hid (zd (λi=>i=bs\/i=bg\/i=g\/i=rs\/i=rc\/i=rg) w ((w.alloc (.cells #[.pointer (some ⟨pc,0,none⟩),.pointer (some ⟨rs,0,none⟩)] 94)).alloc (.cells #[.int .i64 on,.int .i64 sz,.int .i64 W,.int .i64 H,.int .i64 lk,.string tx] 99))):=zd.below _ hbl;generalize (w.alloc (.cells #[.pointer (some ⟨pc,0,none⟩),.pointer (some ⟨rs,0,none⟩)] 94)).alloc (.cells #[.int .i64 on,.int .i64 sz,.int .i64 W,.int .i64 H,.int .i64 lk,.string tx] 99)=wa at *;clear hbl;go_at_call 19;refine(zmQ pc bs bg g N s W H _ HC.out w1 w2 h1 h2).mono ?_;rintro e wb ⟨g1,N1,rfl,C1,K1,hg1⟩;clear HC;have HC:=zH C1;replace HR:=zH<|HR.out.keep K1 HsP.out.1 HsP.out.2.1 HsP.out.2.2
 replace HT:=zH<|HT.out.keep K1 (by have:=Hlt.out;omega) (by have:=Hlt.out;omega)
 replace HK:=zH<|HK.out.trans K1 (λi _ h=>zm1 h)
 have zwb:=K1.size;replace HF:=zH<|HF.out.keep K1 (by have:=Hlt.out;omega)
 replace HPp:=zH<|HPp.out.keep K1 (by have:=Hlt.out;omega)
 have lg1:g1<wb.heap.size:=by obtain⟨t,P,_⟩:=HC.out.pr;exact P.gr.glt
 have hg1':g1=g\/w.heap.size+2<=g1:=by omega
 clear C1 K1 hg1;have q0:=HPp.out.c0;have q1:=HPp.out.c1;have f2:=HF.out.c2;have f3:=HF.out.c3;go_wp2_with fail;go_at_call 38;refine(zfJ rs rc rg cap M s W H _ HR.out HOK.out w1 w2 h1 h2).mono ?_;rintro e wc ⟨rg1,cap1,M1,rfl,R1,K1,hr1⟩;clear HR;have HR:=zH R1;replace HC:=zH<|HC.out.keep K1 HsR.out.1 HsR.out.2.1 HsR.out.2.2.1 (zwA HsR.out.2.2.2 hg1' (by have:=Hlt.out;omega) (by have:=Hlt.out;omega) (by have:=Hlt.out;omega))
 replace HT:=zH<|HT.out.keep K1 (by have:=Hlt.out;omega) (by have:=Hlt.out;omega)
 replace HK:=zH<|HK.out.trans K1 (λi _ h=>zm2 h)
 have zwc:=K1.size;replace HF:=zH<|HF.out.keep K1 (by have:=Hlt.out;omega)
 replace HPp:=zH<|HPp.out.keep K1 (by have:=Hlt.out;omega)
 have lr1:=HR.out.cels.glt;have hr1':rg1=rg\/w.heap.size+2<=rg1:=by omega
 have hne1:=zwB HsR.out.2.2.2 hg1' (show rg1=rg\/wb.heap.size<=rg1 from hr1) lg1 (by have:=Hlt.out;omega);have HsQ:=zH<|zwC HsP.out.2.2 hr1' (by have:=Hlt.out;omega) (by have:=Hlt.out;omega) hne1
 have HsS:=zH<|zvg HsR.out.2.2.2 hg1' (by have:=Hlt.out;omega) (by have:=Hlt.out;omega) hne1
 clear R1 K1 hr1 q0 q1 f2 f3;have q0:=HPp.out.c0;have q1:=HPp.out.c1;have f4:=HF.out.c4;have f5:=HF.out.c5;have HBs:Hid (BOk (zaB s W H).B/\(zaB s W H).B.size=s.B.size):=⟨HB.out,rfl⟩;have HO2:=zH<|zcT HOK.out w1 w2 h1 h2
 generalize zaB s W H=s2 at *;go_wp2_with fail;go_at_call 22;refine(zmZ pc bs bg g1 N1 s2 tx _ HC.out HT.out (by omega)).mono ?_;rintro e wd ⟨rfl,C2,K2⟩;clear HC;have HC:=zH C2;replace HR:=zH<|HR.out.keep K2 (zgt HsP.out.1 hg1' (by have:=Hlt.out;omega)) (zgt HsP.out.2.1 hg1' (by have:=Hlt.out;omega)) HsQ.out
 replace HT:=zH<|HT.out.keep K2 (by have:=Hlt.out;omega) (by have:=Hlt.out;omega)
 replace HK:=zH<|HK.out.trans K2 (λi hi h=>keepP hi hg1' h)
 have zwd:=K2.size;replace HF:=zH<|HF.out.keep K2 (by have:=Hlt.out;omega)
 replace HPp:=zH<|HPp.out.keep K2 (by have:=Hlt.out;omega)
 clear C2 K2 q0 q1 f4 f5;have q0:=HPp.out.c0;have q1:=HPp.out.c1;have f5:=HF.out.c5;go_wp2_with fail;go_at_call 72;refine(zhe rs rc rg1 cap1 M1 s2 tx _ HR.out HO2.out HBs.out.1 (by have:=HBs.out.2;omega)).mono ?_;rintro e we ⟨rg2,cap2,M2,rfl,R2,K2,hr2⟩;clear HR;have HR:=zH R2;replace HC:=zH<|HC.out.keep K2 (zgt HsR.out.1 hr1' (by have:=Hlt.out;omega)) (zgt HsR.out.2.1 hr1' (by have:=Hlt.out;omega)) (zgt HsR.out.2.2.1 hr1' (by have:=Hlt.out;omega)) HsS.out
 replace HT:=zH<|HT.out.keep K2 (by have:=Hlt.out;omega) (by have:=Hlt.out;omega)
 replace HK:=zH<|HK.out.trans K2 (λi hi h=>ztP hi hr1' h)
 have zwe:=K2.size;replace HF:=zH<|HF.out.keep K2 (by have:=Hlt.out;omega)
 replace HPp:=zH<|HPp.out.keep K2 (by have:=Hlt.out;omega)
 have hr2':rg2=rg\/w.heap.size<=rg2:=by omega
 have hne2:=zvh hne1 (show rg2=rg1\/wd.heap.size<=rg2 from hr2) (by omega);have Hsz:Hid ((zj s2 tx.data.toList).B.size<=s.B.size+tx.size/\BOk (zj s2 tx.data.toList).B):=by
  have q:=zgs tx.data.toList HBs.out.1;refine⟨?_,q.2⟩;have a:=q.1;rw[HBs.out.2] at a;exact a
 clear R2 K2 q0 q1 f5;cases hl:(lk.tmod 2==0);all_goals as_aux_lemma=>
  have hl':(lk.tmod 2 != 0)=_:=congrArg (λb=>!b) hl;have f4:=HF.out.c4;have q0:=HPp.out.c0;have q1:=HPp.out.c1;go_wp2_with fail;first
   |(go_at_call 68
     refine(zir (B:=some (⟨pc,bs,bg,g1,N1,rs,rc,rg2,cap2,M2⟩,zj s2 tx.data.toList)) ⟨rfl,rfl,HC.out,HR.out,Hsz.out.2⟩).mono ?_;rintro e wf ⟨rfl,b6⟩;replace HC:=zH<|HC.out.below b6
     replace HR:=zH<|HR.out.below b6
     replace HK:=zH<|HK.out.thenBelow b6
     clear b6;go_wp2_with fail)
   |skip
  go_ret;exact⟨g1,N1,rg2,cap2,M2,zj s2 tx.data.toList,rfl,HC.out,HR.out,Hsz.out.2,HK.out,by omega,hr2',hne2,Hsz.out.1⟩
end
end Go.Proofs.YtjlfibhbfdckpaaGreatDoor
