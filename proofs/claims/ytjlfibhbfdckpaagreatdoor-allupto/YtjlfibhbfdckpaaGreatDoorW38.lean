import Derived.Test.YtjlfibhbfdckpaaGreatDoorW07
import Derived.Test.YtjlfibhbfdckpaaGreatDoorW37
namespace Go.Proofs.YtjlfibhbfdckpaaGreatDoor
set_option maxHeartbeats 64000000
set_option maxRecDepth 100000
section
open Go.RowKit
attribute [local go_sem ↓] Go.wp_at_zero Go.wp_at_succ
structure zbI (w:World) (pc bs bg g N:Nat) (s:Rs):Prop where
 blk:w.heap[pc]?=some (.cells #[.pointer (some ⟨bs,0,none⟩)] 91)
 pr:∃t,zh w bs bg g N s t/\Tie s.B t
 ok:s.Ok
 ne1:pc≠bs
 ne2:pc≠bg
 ne3:pc≠g
 l1:2<=bs
 l2:2<=bg
 l3:2<=g
section
variable {w w':World} {pc bs bg g N:Nat} {s:Rs}
theorem zbI.lt (h:zbI w pc bs bg g N s):pc<w.heap.size:=(Array.getElem?_eq_some_iff.1 h.blk).1
theorem zbI.c0 (h:zbI w pc bs bg g N s):w.cell? ⟨pc,0,none⟩=some (.pointer (some ⟨bs,0,none⟩)):=za h.blk 0
theorem zbI.same (h:zbI w pc bs bg g N s) (h0:w'.heap[pc]?=w.heap[pc]?) (h1:w'.heap[bs]?=w.heap[bs]?) (h2:w'.heap[bg]?=w.heap[bg]?) (h3:w'.heap[g]?=w.heap[g]?):zbI w' pc bs bg g N s:=by
 obtain⟨t,P,T⟩:=h.pr;exact⟨by rw[h0];exact h.blk,⟨t,P.same h1 h2 h3,T⟩,h.ok,h.ne1,h.ne2,h.ne3,h.l1,h.l2,h.l3⟩
theorem zbI.keep {F:Nat->Prop} (h:zbI w pc bs bg g N s) (k:zd F w w') (h0:¬F pc) (h1:¬F bs) (h2:¬F bg) (h3:¬F g):zbI w' pc bs bg g N s:=by
 obtain⟨t,P,T⟩:=h.pr;exact h.same (k.block _ h.lt h0) (k.block _ P.lt h1) (k.block _ P.gr.lt h2) (k.block _ P.gr.glt h3)
theorem zbI.below (h:zbI w pc bs bg g N s) (hb:Below w.heap.size w w'):zbI w' pc bs bg g N s:=
 h.keep (zd.below (λ_=>False) hb) id id id id
end
def ztN (pc bs bg g:Nat) (w:World) (s:Rs) (r:Value) (e:Ending) (w':World):Prop:=
 ∃g' N',e=.returned r/\zbI w' pc bs bg g' N' s/\zd (λi=>i=bs\/i=bg\/i=g) w w'/\(g'=g\/w.heap.size<=g')
theorem zjr (pc bs bg g N:Nat) (s:Rs) (w:World) (h:zbI w pc bs bg g N s):
 Calls Tryz.prog 58 #[.pointer (some ⟨pc,0,none⟩)] w λe w'=>e=.returned (.bool false)/\w'=w:=by
 have c:=h.c0;clear h;go_in;go_wp2;go_ret;exact⟨rfl,rfl⟩
theorem zf0 (w:World):
 Calls Tryz.prog 58 #[.pointer none] w λe w'=>e=.returned (.bool true)/\w'=w:=by
 go_in;go_wp2;go_ret;exact⟨rfl,rfl⟩
theorem zuX (x y:Int) (w:World) (hs:ZC x y=false):
 Calls Tryz.prog 45 #[.int .i64 x,.int .i64 y] w λe w'=>e=.returned (.tuple #[.pointer none,.int .i64 3])/\w'=w:=by
 go_in;go_wp2_with (first|(go_at_call 46;refine sM (zcg _ _ _) ?_));go_ret2;exact⟨rfl,rfl⟩
theorem zte (W H:Nat) (w:World) (w1:1<=W) (w2:W<=40) (h1:1<=H) (h2:H<=20) (hw:2<=w.heap.size):
 Calls Tryz.prog 45 #[.int .i64 W,.int .i64 H] w λe w'=>∃pc bs bg g,e=.returned (.tuple #[.pointer (some ⟨pc,0,none⟩),.int .i64 0])/\zbI w' pc bs bg g (H*W) (zfh W H)/\Below w.heap.size w w'/\w.heap.size<=pc/\w.heap.size<=bs/\w.heap.size<=bg/\w.heap.size<=g:=by
 have hs:ZC W H=true:=Zs.2 (by omega);go_in;go_wp2_with (first|(go_at_call 46;refine sM (zcg _ _ _) ?_));go_at_call 106;refine(zvx W H _ w1 w2 h1 h2).mono ?_;rintro e wa ⟨bs,bg,g,rfl,P1,b1,l1,l2,l3⟩;have HP1:=zH P1;have HB1:=zH b1;clear P1 b1;go_wp2_with fail;go_ret2;have p:=HP1.out;have hbl:Below wa.heap.size wa (wa.alloc (.cells #[.pointer (some ⟨bs,0,none⟩)] 91)):=(Below.refl _ _).alloc (Nat.le_refl _) _;have q1:=p.lt;have q2:=p.gr.lt;have q3:=p.gr.glt;exact⟨wa.heap.size,bs,bg,g,rfl,⟨zf wa _,⟨zl2,p.below hbl,zg0 rfl rfl⟩,zg4 w1 w2 h1 h2,by omega,by omega,by omega,by omega,by omega,by omega⟩,HB1.out.trans (hbl.mono HB1.out.size),HB1.out.size,l1,l2,l3⟩
theorem zrw (b:ByteArray) (w:World):
 Calls Tryz.prog 22 #[.pointer none,.string b] w λe w'=>e=.returned (.tuple #[])/\w'=w:=by
 go_in;go_wp2_with (first|(go_at_call 58;refine sM (zf0 _) ?_));go_end0;exact⟨rfl,rfl⟩
theorem ztf (l:List UInt8):∀ {s:Rs},s.Ok->(zj s l).Ok:=by
 induction l with
 |nil=>intro s h;exact h
 |cons c r ih=>intro s h;exact ih (h.one c)
theorem zmP (x y:Int) (w:World):
 Calls Tryz.prog 19 #[.pointer none,.int .i64 x,.int .i64 y] w λe w'=>e=.returned (.int .i64 1)/\w'=w:=by
 go_in;go_wp2_with (first|(go_at_call 58;refine sM (zf0 _) ?_));go_ret;exact⟨rfl,rfl⟩
theorem zpk (pc bs bg g N:Nat) (s:Rs) (x y:Int) (w:World) (h:zbI w pc bs bg g N s) (hs:ZC x y=false):
 Calls Tryz.prog 19 #[.pointer (some ⟨pc,0,none⟩),.int .i64 x,.int .i64 y] w (ztN pc bs bg g w s (.int .i64 3)):=by
 have HC:=zH h;clear h;go_in;go_wp2_with (first|(go_at_call 58;refine sM (zjr pc bs bg g N s _ HC.out) ?_)|(go_at_call 46;refine sM (zcg _ _ _) ?_));go_ret;exact⟨g,N,rfl,HC.out,zd.refl _ _,Or.inl rfl⟩
theorem zmQ (pc bs bg g N:Nat) (s:Rs) (W H:Nat) (w:World) (h:zbI w pc bs bg g N s) (w1:1<=W) (w2:W<=40) (h1:1<=H) (h2:H<=20):
 Calls Tryz.prog 19 #[.pointer (some ⟨pc,0,none⟩),.int .i64 W,.int .i64 H] w (ztN pc bs bg g w (zaB s W H) (.int .i64 0)):=by
 have hs:ZC W H=true:=Zs.2 (by omega);have HC:=zH h;have c0:=h.c0;clear h;go_in;go_wp2_with (first|(go_at_call 58;refine sM (zjr pc bs bg g N s _ HC.out) ?_)|(go_at_call 46;refine sM (zcg _ _ _) ?_));go_at_call 59;obtain⟨t,P,tie⟩:=HC.out.pr;have hlt:=HC.out.lt;have l3:=HC.out.l3;refine(znl bs bg g N s t W H _ P HC.out.ok w1 w2 h1 h2).mono ?_;rintro e wa ⟨g1,N1,rfl,P1,K1,hg⟩;have HP1:Hid (∃t,zh wa bs bg g1 N1 (zaB s W H) t/\Tie (zaB s W H).B t):=⟨t,P1,tie⟩;clear P tie P1;go_wp2_with fail;go_ret;have q:=HC.out;have:=q.ne1;have:=q.ne2;have:=q.ne3;have hsz:=K1.size;have hp:2<=w.heap.size:=by have:=q.l1;obtain⟨t,P,_⟩:=q.pr;have:=P.lt;omega
 exact⟨g1,N1,rfl,⟨by rw[K1.block _ q.lt (λh=>by omega)];exact q.blk,HP1.out,zcT q.ok w1 w2 h1 h2,q.ne1,q.ne2,by omega,q.l1,q.l2,by omega⟩,K1,hg⟩
theorem zrx (x y:Int) (w:World):
 Calls Tryz.prog 60 #[.pointer none,.int .i64 x,.int .i64 y] w λe w'=>e=.returned (.tuple #[zbR.agg,.int .i64 1])/\Below w.heap.size w w':=by
 go_in;go_wp2_with (first|(go_at_call 58;refine sM (zf0 _) ?_));exact bodyPost_ret (v:=.tuple #[zbR.agg,.int .i64 1]) (by simp[results,Tryz.results60,go_sem,zbR,Pn.plain]) rfl ⟨rfl,(Below.refl _ _).alloc (Nat.le_refl _) _⟩
theorem ztg (pc bs bg g N:Nat) (s:Rs) (x y:Int) (w:World) (h:zbI w pc bs bg g N s) (hin:inG s.W s.H x y=false):
 Calls Tryz.prog 60 #[.pointer (some ⟨pc,0,none⟩),.int .i64 x,.int .i64 y] w λe w'=>e=.returned (.tuple #[zbR.agg,.int .i64 4])/\Below w.heap.size w w':=by
 have hbl:Below w.heap.size w (w.alloc (.cells #[.int .i32 0,.int .i64 0,.int .i64 0,.int .i64 0,.bool false,.bool false,.bool false] 38)):=(Below.refl _ _).alloc (Nat.le_refl _) _;have HC:=zH<|h.below hbl
 have c0:=h.c0;have l:=h.lt;clear h hbl;go_in;go_wp2_with fail;go_at_call 58;refine sM (zjr pc bs bg g N s _ HC.out) ?_;go_wp2_with fail;go_at_call 121;obtain⟨t,P,tie⟩:=HC.out.pr;refine sM (zlt bs bg g N s t x y _ P) ?_;rw[hin];clear P tie;go_wp2_with fail;exact bodyPost_ret (v:=.tuple #[zbR.agg,.int .i64 4]) (by simp[results,Tryz.results60,go_sem,zbR,Pn.plain]) rfl ⟨rfl,(Below.refl _ _).alloc (Nat.le_refl _) _⟩
theorem zry (pc bs bg g N:Nat) (s:Rs) (x y:Int) (w:World) (h:zbI w pc bs bg g N s) (hin:inG s.W s.H x y=true):
 Calls Tryz.prog 60 #[.pointer (some ⟨pc,0,none⟩),.int .i64 x,.int .i64 y] w λe w'=>e=.returned (.tuple #[(s.G x.toNat y.toNat).agg,.int .i64 0])/\Below w.heap.size w w':=by
 obtain⟨x0,x1,y0,y1⟩:=zu.1 hin;obtain⟨x,rfl⟩:=Int.eq_ofNat_of_zero_le x0;obtain⟨y,rfl⟩:=Int.eq_ofNat_of_zero_le y0;rw[Int.toNat_natCast,Int.toNat_natCast];have hbl:Below w.heap.size w (w.alloc (.cells #[.int .i32 0,.int .i64 0,.int .i64 0,.int .i64 0,.bool false,.bool false,.bool false] 38)):=(Below.refl _ _).alloc (Nat.le_refl _) _;have HC:=zH<|h.below hbl
 have c0:=h.c0;have l:=h.lt;clear h hbl;go_in;go_wp2_with fail;go_at_call 58;refine sM (zjr pc bs bg g N s _ HC.out) ?_;go_wp2_with fail;go_at_call 121;obtain⟨t,P,tie⟩:=HC.out.pr;refine sM (zlt bs bg g N s t x y _ P) ?_;rw[hin];go_wp2_with fail;go_at_call 122;refine(znC bs bg g N s t x y _ P (by omega) (by omega)).mono ?_;rintro e w2 ⟨rfl,hb2⟩;have hz:w.heap.size<w2.heap.size:=by have:=hb2.size;simp at this;omega
 have hc:=hb2.cells (b:=w.heap.size) (by simp);have hf:=hb2.marks (b:=w.heap.size) (by simp);have hB:=((Below.refl _ _).alloc (Nat.le_refl _) _).trans (hb2.mono (by simp));clear hb2 P tie;go_wp2_with fail;exact bodyPost_ret (v:=.tuple #[(s.G x y).agg,.int .i64 0]) (by simp[results,Tryz.results60,go_sem,hc]) rfl ⟨rfl,((zd.below (λi=>i=w.heap.size) hB).put7 w.heap.size 0 (s.G x y) (λ_=>rfl)).toBelow (Nat.le_refl _) (λi hi=>by omega)⟩
theorem zil {s:Rs} {t:Pt} (h:Tie s.B t):(decide (t.mode=0)&&decide (t.bn=0))=zat s:=by
 unfold zat;rcases h with⟨e,hm,h0⟩|⟨e,hm,h0⟩|⟨l,e,hm,h0,_⟩|⟨a,e,hm,h0,_⟩|⟨a,b,e,hm,h0,_⟩|⟨a,b,d,e,hm,h0,_⟩
 ·rw[e,hm,h0,ByteArray.toList_eq];rfl
 ·rw[e,hm,h0,ByteArray.toList_eq];rfl
 all_goals
  rw[e,hm,h0];have:∀(x:UInt8) (l:List UInt8),(⟨(x::l).toArray⟩:ByteArray).toList.isEmpty=false:=by
   intro x l;rw[ByteArray.toList_eq];rfl
  first
   |(rw[this];rfl)
   |(have q:=this a [b,d];rw[q];rfl)
   |(have q:=this a [b];rw[q];rfl)
   |(have q:=this a [];rw[q];rfl)
theorem zpl (w:World):
 Calls Tryz.prog 23 #[.pointer none] w λe w'=>e=.returned (zcs 0 0 0 0 false Pn.plain 0 0 false)/\Below w.heap.size w w':=by
 go_in;go_wp2_with (first|(go_at_call 58;refine sM (zf0 _) ?_));exact bodyPost_ret (v:=zcs 0 0 0 0 false Pn.plain 0 0 false) (by simp[results,Tryz.results23,go_sem,Pn.plain]) rfl ⟨rfl,(Below.refl _ _).alloc (Nat.le_refl _) _⟩
theorem zuY (pc bs bg g N:Nat) (s:Rs) (w:World) (h:zbI w pc bs bg g N s):
 Calls Tryz.prog 23 #[.pointer (some ⟨pc,0,none⟩)] w λe w'=>e=.returned (zcs s.W s.H s.x s.y s.pend s.pen s.top s.bot (zat s))/\Below w.heap.size w w':=by
 have hbl:Below w.heap.size w (w.alloc (.cells #[.int .i64 0,.int .i64 0,.int .i64 0,.int .i64 0,.bool false,.int .i64 0,.int .i64 0,.bool false,.bool false,.bool false,.int .i64 0,.int .i64 0,.bool false] 59)):=(Below.refl _ _).alloc (Nat.le_refl _) _;have HC:=zH<|h.below hbl
 have c0:=h.c0;have l:=h.lt;clear h hbl;go_in;go_wp2_with fail;go_at_call 58;refine sM (zjr pc bs bg g N s _ HC.out) ?_;go_wp2_with fail;go_at_call 63;obtain⟨t,P,tie⟩:=HC.out.pr;refine(zj7 bs bg g N s t _ P).mono ?_;rintro e w2 ⟨rfl,hb2⟩;rw[zil tie];have hz:w.heap.size<w2.heap.size:=by have:=hb2.size;simp at this;omega
 have hc:=hb2.cells (b:=w.heap.size) (by simp);have hf:=hb2.marks (b:=w.heap.size) (by simp);have hB:=((Below.refl _ _).alloc (Nat.le_refl _) _).trans (hb2.mono (by simp));clear hb2 P tie;go_wp2_with fail;exact bodyPost_ret (v:=zcs s.W s.H s.x s.y s.pend s.pen s.top s.bot (zat s)) (by simp[results,Tryz.results23,go_sem,hc]) rfl ⟨rfl,zd.toBelow ((((((((((((((zd.below (λi=>i=w.heap.size) hB).setCell ⟨w.heap.size,0,none⟩ _ (λ_=>rfl)).setCell ⟨w.heap.size,1,none⟩ _ (λ_=>rfl)).setCell ⟨w.heap.size,2,none⟩ _ (λ_=>rfl)).setCell ⟨w.heap.size,3,none⟩ _ (λ_=>rfl)).setCell ⟨w.heap.size,4,none⟩ _ (λ_=>rfl)).setCell ⟨w.heap.size,5,none⟩ _ (λ_=>rfl)).setCell ⟨w.heap.size,6,none⟩ _ (λ_=>rfl)).setCell ⟨w.heap.size,7,none⟩ _ (λ_=>rfl)).setCell ⟨w.heap.size,8,none⟩ _ (λ_=>rfl)).setCell ⟨w.heap.size,9,none⟩ _ (λ_=>rfl)).setCell ⟨w.heap.size,10,none⟩ _ (λ_=>rfl)).setCell ⟨w.heap.size,11,none⟩ _ (λ_=>rfl)).setCell ⟨w.heap.size,12,none⟩ _ (λ_=>rfl)) (Nat.le_refl _) (λi hi=>by omega)⟩
theorem zpm (w:World):Calls Tryz.prog 21 #[.pointer none] w λe w'=>e=.returned (.string ⟨#[]⟩)/\w'=w:=by
 go_in;go_wp2_with (first|(go_at_call 41;refine sM (zfD _) ?_));go_ret;exact⟨rfl,rfl⟩
def dfB (s:Rs) (P:Nat->Nat->zk) (i:Nat):Bool:=ZL s P (i%s.W) (i/s.W)
theorem zwj (s:Rs) (P:Nat->Nat->zk) {x y:Nat} (hx:x<s.W):dfB s P (y*s.W+x) = !(s.G x y).eqB (P x y):=by
 unfold dfB ZL;rw[Nat.add_comm,Nat.add_mul_mod_self_right,Nat.mod_eq_of_lt hx,Nat.add_mul_div_right _ _ (by omega),Nat.div_eq_of_lt hx,Nat.zero_add]
structure Fd (L:List Wn) (s:Rs) (P:Nat->Nat->zk) (b:List UInt8) (kn:Nat):Prop where
 flok:zj9 L (zj s b)
 few:b.length<=64*kn+16
 kn8:kn<=800
 none:kn=0->b=[]
 moved:∀c:Nat,(c=s.H*s.W\/∃n:Int,-(s.H:Int)<=n/\n<=s.H/\c=ZA s P n)->b.length<=64*c+24
 odd:(zj s b).odd=s.odd
 W:(zj s b).W=s.W
 H:(zj s b).H=s.H
 eq:∀x y,x<s.W->y<s.H->(zj s b).G x y=P x y
 top:(zj s b).top=0
 bot:(zj s b).bot=((zj s b).H:Int)-1
 ground:zat (zj s b)=true
theorem zwk {w:World} {M:Mm} {L:List Wn} {last:Int} {N:Nat} {s:Rs} {t:Pt} {rk:Int->Nat} {K:Nat} (f:zj9 L s) (T:ZR L rk K) (h:zI w M L last N s t) {r:Wn} (hr:r∈L) (hr0:r.n=0) (P:Nat->Nat->zk) (hP:(λx y:Nat=>zcx L K r x y)=P) (b:List UInt8) (hb:zdu s P=b) (kn:Nat) (hk:za0 (dfB s P) (s.H*s.W)=kn):Fd L s P b kn:=by
 have hp:=f.pic T h hr hr0;rw[hP] at hp;have hq:=zk6 f.fl hp;rw[hb] at hq;have hk':ZA s P 0=kn:=by rw[zgM f.fl];exact hk
 have f':zj9 L (zj s b):=⟨hq.re.fl,f.pens,by rw[hq.re.W,hq.re.H];exact f.fit⟩;have h1:=zd7 (dfB s P) (s.H*s.W);have h2:=Nat.mul_le_mul f.fl.ok.h2 f.fl.ok.w2;refine⟨f',by rw[←hk'];exact hq.few,by omega,λe=>hq.none (by rw[hk',e]),λc hc=>?_,hq.re.odd,hq.re.W,hq.re.H,λx y hx hy=>hq.re.eq x y hx hy,f'.fl.top,f'.fl.bot,?_⟩
 ·rcases hc with e|⟨n,n1,n2,e⟩
  ·have:=hq.few;rw[hk'] at this;omega
  ·rw[e];exact hq.moved n n1 n2
 ·have tq:Tie (zj s b).B zl2:=by rw[f'.fl.B];exact zg0 rfl rfl
  rw[←zil tq];rfl
end
section
open Go.RowKit
open Wd (wd)
attribute [local go_sem ↓] Go.wp_at_zero Go.wp_at_succ
theorem zth (bs bc g cap N:Nat) (s:Rs) (r:Int) (w:World) (h:zi w bs bc g cap N s) (r0:-2147483648<=r) (r1:r<=2147483647) (hz:wd r=0):
 Calls Tryz.prog 165 #[.pointer (some ⟨bs,0,none⟩),.int .i32 r] w (zac bs bc g w (zba s r) (.tuple #[])):=by
 have HP:Hid (zba s r={s with odd:=wrap64 (s.odd+1)}):=by
  show zba s r=_;unfold zba;exact if_pos hz
 have hq:(wd r==0)=true:=by simp[hz]
 clear hz;go_in;go_wp2_with fail;go_at_call 65;refine(Wd.refWidth r _ r0 r1).mono ?_;rintro e w1 ⟨rfl,hb1⟩;have HR1:=zH<|h.below hb1
 have K1:zd (λi=>i=bs\/i=bc\/i=g) w w1:=zd.below _ hb1;have f15:=HR1.out.f15;have fr:=HR1.out.free;clear h hb1;go_wp2_with fail;have R9:zi (w1.setCell ⟨bs,15,none⟩ (.int .i64 (wrap64 (s.odd+1)))) bs bc g cap N (zba s r):=by
  rw[HP.out];exact HR1.out.setOdd _
 exact bodyPost_ret (v:=.tuple #[]) (by simp[results,Tryz.results165,go_sem]) rfl (Z5 R9 (K1.setCell ⟨bs,15,none⟩ _ (λ_=>.inl rfl)) (.inl rfl))
theorem zrz (bs bc g cap N:Nat) (s:Rs) (r:Int) (w:World) (h:zi w bs bc g cap N s) (ok:s.Ok) (r0:-2147483648<=r) (r1:r<=2147483647):
 Calls Tryz.prog 165 #[.pointer (some ⟨bs,0,none⟩),.int .i32 r] w (zac bs bc g w (zba s r) (.tuple #[])):=by
 by_cases hz:wd r=0
 ·exact zth bs bc g cap N s r w h r0 r1 hz
 obtain⟨K,R,HP,rr0,rr1,way⟩:∃K R:Int,Hid (zba s r=zcr (za8 (zaa s K) R) K)/\-2147483648<=R/\R<=2147483647/\(wd r=1/\K=1/\R=r\/wd r=2/\((s.W:Int)==1)=true/\K=1/\R=32\/wd r=2/\((s.W:Int)==1)=false/\K=2/\R=r):=by
  refine⟨ze1 s.W r,zeq s.W r,if_neg hz,?_,?_,?_⟩
  ·unfold zeq;split<;>omega
  ·unfold zeq;split<;>omega
  ·have:=Wd.wd_cases r;unfold ze1 zeq;by_cases hW:wd r=2/\s.W=1
   ·rw[if_pos hW,if_pos hW];exact .inr (.inl ⟨hW.1,by simp[hW.2],rfl,rfl⟩)
   ·rw[if_neg hW,if_neg hW];by_cases h2:wd r=2
    ·exact .inr (.inr ⟨h2,by simp;omega,h2,rfl⟩)
    ·exact .inl ⟨by omega,by omega,rfl⟩
 have wr:Hid (zb8 s K=true)/\(s.pend=true\/s.pend=false/\K=2/\(s.x==(s.W:Int)-1)=true)\/Hid (zb8 s K=false)/\s.pend=false/\(K=1\/K=2/\(s.x==(s.W:Int)-1)=false):=by
  have k:K=1\/K=2:=by omega
  cases hp:s.pend
  ·rcases k with rfl|rfl
   ·exact .inr ⟨by show zb8 s 1=false;simp[zb8,hp],rfl,.inl rfl⟩
   ·by_cases hx:s.x=(s.W:Int)-1
    ·exact .inl ⟨by show zb8 s 2=true;simp[zb8,hx],.inr ⟨rfl,rfl,by simp[hx]⟩⟩
    ·exact .inr ⟨by show zb8 s 2=false;simp[zb8,hp,hx],rfl,.inr ⟨rfl,by simp[hx]⟩⟩
  ·exact .inl ⟨by show zb8 s K=true;simp[zb8,hp],.inl rfl⟩
 have hq:(wd r==0)=false:=by simp[hz]
 have Hok:=zH ok;have ok0:Hid (Rs.Ok { ({s with x:=0}:Rs) with pend:=false}):=zpx ok;have W1:=ok.w1;have W2:=ok.w2;have X0:=ok.x0;have X1:=ok.x1;have hv0:IntKind.i64.wrap ((s.W:Int)-1)=(s.W:Int)-1:=zm _ (by omega) (by omega);clear ok hz;go_in;go_wp2_with fail;go_at_call 65;refine(Wd.refWidth r _ r0 r1).mono ?_;rintro e w1 ⟨rfl,hb1⟩;have HR1:=zH<|h.below hb1
 have K1:zd (λi=>i=bs\/i=bc\/i=g) w w1:=zd.below _ hb1;have f1:=HR1.out.f1;have f3:=HR1.out.f3;have f5:=HR1.out.f5;clear h hb1;rcases way with⟨hw,rfl,rfl⟩|⟨hw,hW,rfl,rfl⟩|⟨hw,hW,rfl,rfl⟩<;>rcases wr with⟨hwr,hp|⟨hp,kk,hx⟩⟩|⟨hwr,hp,kk|⟨kk,hx⟩⟩;all_goals first
  |exact absurd kk (by decide)
  |as_aux_lemma=>
    try clear kk
    go_wp2_with fail;go_quiet (fail);have HR2:=zH<|HR1.out.drewN nq
    have K2:=K1.drewN nq;generalize w1.drewN nq=w2 at *;clear f1 f3 f5 HR1 K1;first
     |(have Hs1:=zH (show zaa s _=zt {s with x:=0} from if_pos hwr.out)
       have f3:=HR2.out.f3;have fr:=HR2.out.free;have l2:=HR2.out.lt;go_wp2_with fail;go_at_call 190;refine(zgx bs bc g cap N {s with x:=0} _ (HR2.out.setX 0) ok0.out).mono ?_;rintro e w5 ⟨g5,cap5,N5,rfl,R5,K4,hg5⟩;have K5:=(K2.setCell ⟨bs,3,none⟩ _ (λ_=>.inl rfl)).trans K4 (λ_ _ h=>h);have Hg6:Hid (g5=g\/w.heap.size<=g5):=hg5.imp id (λq=>by rw[zbA] at q;have:=K2.size;omega);clear K4 hg5 K2 HR2 f3 fr;have ok1:=zpy Hok.out;generalize zt {s with x:=0}=s1 at *)
     |(have Hs1:=zH (show zaa s _=s from if_neg (by rw[hwr.out];decide))
       have R5:=HR2.out;have K5:=K2;have ok1:=Hok.out;generalize hge:g=g5 at R5;generalize hce:cap=cap5 at R5;generalize hNe:N=N5 at R5;have Hg6:Hid (g5=g\/w.heap.size<=g5):=.inl hge.symm;clear hge hce hNe K2 HR2;generalize w2=w5 at *;generalize hse:s=s1 at R5 ok1;replace Hs1:=zH (Hs1.out.trans hse);clear hse)
    have HR5:=zH R5;have x0:=ok1.x0;have x1:=ok1.x1;have y0:=ok1.y0;have w40:=ok1.w2;have w01:=ok1.w1;have f0:=R5.f0;have f3:=R5.f3;have f4:=R5.f4;have f6:=R5.f6;have f7:=R5.f7;have f8:=R5.f8;have f9:=R5.f9;have f10:=R5.f10;have l5:=R5.lt;have ne5:=R5.ne2;have Hok1:=zH ok1;clear R5 ok1;go_wp2_with fail;go_region_held3 (λw'=>w'.cell? ⟨bs,0,none⟩=some (.pointer (some ⟨bc,0,none⟩))/\w'.cell? ⟨bs,3,none⟩=some (.int .i64 s1.x)/\w'.cell? ⟨bs,4,none⟩=some (.int .i64 s1.y)/\w'.cell? ⟨bs,6,none⟩=some (.int .i64 s1.pen.f)/\w'.cell? ⟨bs,7,none⟩=some (.int .i64 s1.pen.b)/\w'.cell? ⟨bs,8,none⟩=some (.bool s1.pen.bo)/\w'.cell? ⟨bs,9,none⟩=some (.bool s1.pen.un)/\w'.cell? ⟨bs,10,none⟩=some (.bool s1.pen.re)) (simp[*]) (first|(go_at_call 83;refine(zkn bc g5 cap5 s1.W s1.H N5 s1.G s1.x s1.y _ s1.pen _ HR5.out.cels.drew Hok1.out.wf (by omega) (by omega) (by omega) (by omega)).mono ?_;rintro e w6 ⟨rfl,C6,K6⟩;have e1:=zaT K6 l5 ne5));have K6:zd (λi=>i=g5) w5 w6:=⟨K6.os,K6.tape,K6.output,K6.size,K6.block⟩;first|have R6:=HR5.out.cells (za8 s1 r) (K6.block _ l5 ne5) C6 rfl HR5.out.ne2|have R6:=HR5.out.cells (za8 s1 R) (K6.block _ l5 ne5) C6 rfl HR5.out.ne2|have R6:=HR5.out.cells (za8 s1 32) (K6.block _ l5 ne5) C6 rfl HR5.out.ne2
    have K7:=K5.trans K6 (λi hi e=>by have:=Hg6.out;omega);have HR6:=zH R6;have f1:w6.cell? ⟨bs,1,none⟩=some (.int .i64 s1.W):=R6.f1;have f3:w6.cell? ⟨bs,3,none⟩=some (.int .i64 s1.x):=R6.f3;have f5:w6.cell? ⟨bs,5,none⟩=some (.bool s1.pend):=R6.f5;have fr:=R6.free;have hv:IntKind.i64.wrap (s1.x+1)=s1.x+1:=zm _ (by omega) (by omega);have hv2:IntKind.i64.wrap (s1.x+2)=s1.x+2:=zm _ (by omega) (by omega);rename_i hS;clear hS e1 C6 K6 R6 K5 HR5;go_wp2_with fail;go_quiet (fail);go_wp2_with fail;all_goals go_end0
    ·exact Z5 (g':=g5) (cap':=cap5) (N':=N5) (by
      rw[HP.out,Hs1.out];unfold zcr;rw[if_pos (by assumption)];exact((HR6.out.drewN nq).setX ((s1.W:Int)-1)).setPend true) (((K7.drewN nq).setCell ⟨bs,3,none⟩ _ (λ_=>.inl rfl)).setCell ⟨bs,5,none⟩ _ (λ_=>.inl rfl)) Hg6.out
    ·exact Z5 (g':=g5) (cap':=cap5) (N':=N5) (by
      rw[HP.out,Hs1.out];unfold zcr;rw[if_neg (by show¬(s1.W:Int)<=s1.x+_;omega)];exact(HR6.out.drewN nq).setX (s1.x+_)) ((K7.drewN nq).setCell ⟨bs,3,none⟩ _ (λ_=>.inl rfl)) Hg6.out
end
section
open Go.RowKit
attribute [local go_sem ↓] Go.wp_at_zero Go.wp_at_succ
theorem zim (c:UInt8) (w:World) (b:Nat) (hb:w.cell? ⟨b,0,none⟩=some (.int .u8 c.toNat)):
 (convert 177 9 (.slice (some ⟨b,0,none⟩) 1 1)).run Tryz.prog w=.ok (.string ⟨#[c]⟩) w:=
 run_convert_bytes_back w 177 9 5 ⟨b,0,none⟩ 1 [c] Tryz.underlying177 Tryz.underlying5 Tryz.underlying9 (λj hj=>by
  obtain rfl:j=0:=by simp at hj;exact hj
  rw[Addr.add_mid];exact hb)
theorem zrA (bs bc g cap N:Nat) (s:Rs) (c:UInt8) (w:World) (h:zi w bs bc g cap N s) (ok:s.Ok) (hc:(c.toNat:Int)=13):
 Calls Tryz.prog 164 #[.pointer (some ⟨bs,0,none⟩),.int .u8 c.toNat] w (zac bs bc g w (zw s c) (.tuple #[])):=by
 have HD:Hid (zw s c=ZQ s 0 s.y):=by
  show zw s c=ZQ s 0 s.y;unfold zw;rw[if_pos hc]
 have HR:=zH h;have Hok:=zH ok;have hc256:c.toNat<256:=c.toNat_lt;have x0:=ok.x0;have x1:=ok.x1;have w40:=ok.w2;clear h ok;have k13:((c.toNat:Int)==13)=true:=by simp;omega
 have f4:=HR.out.f4;clear hc;go_in;go_wp2_with fail;go_at_call 91;refine(zdU bs bc g cap N s 0 s.y _ HR.out).mono ?_;rintro e w5 ⟨rfl,R5,K5⟩;have R9:zi w5 bs bc g cap N (zw s c):=by rw[HD.out];exact R5
 have K6:zd (λi=>i=bs\/i=bc\/i=g) w w5:=K5.mono (λi hi=>.inl hi);clear R5 K5;go_wp2_with fail;go_end0;exact Z5 R9 K6 (.inl rfl)
theorem zrB (bs bc g cap N:Nat) (s:Rs) (c:UInt8) (w:World) (h:zi w bs bc g cap N s) (ok:s.Ok) (hc:(c.toNat:Int)=10):
 Calls Tryz.prog 164 #[.pointer (some ⟨bs,0,none⟩),.int .u8 c.toNat] w (zac bs bc g w (zw s c) (.tuple #[])):=by
 have HD:Hid (zw s c=zt s):=by
  show zw s c=zt s;unfold zw;rw[if_neg (by omega),if_pos hc]
 have HR:=zH h;have Hok:=zH ok;have hc256:c.toNat<256:=c.toNat_lt;have x0:=ok.x0;have x1:=ok.x1;have w40:=ok.w2;clear h ok;have k13:((c.toNat:Int)==13)=false:=by simp;omega
 have k10:((c.toNat:Int)==10)=true:=by simp;omega
 clear hc;go_in;go_wp2_with fail;go_at_call 190;refine(zgx bs bc g cap N s _ HR.out (zjw Hok.out)).mono ?_;rintro e w5 ⟨g5,cap5,N5,rfl,R5,K5,hg5⟩;have R9:zi w5 bs bc g5 cap5 N5 (zw s c):=by rw[HD.out];exact R5
 have Hg:=zH hg5;clear R5 hg5;go_wp2_with fail;go_end0;exact Z5 R9 K5 Hg.out
theorem zti (bs bc g cap N:Nat) (s:Rs) (c:UInt8) (w:World) (h:zi w bs bc g cap N s) (ok:s.Ok) (hc:(c.toNat:Int)=8):
 Calls Tryz.prog 164 #[.pointer (some ⟨bs,0,none⟩),.int .u8 c.toNat] w (zac bs bc g w (zw s c) (.tuple #[])):=by
 have HD:Hid (zw s c=ZQ s (s.x-1) s.y):=by
  show zw s c=ZQ s (s.x-1) s.y;unfold zw;rw[if_neg (by omega),if_neg (by omega),if_pos hc]
 have HR:=zH h;have Hok:=zH ok;have hc256:c.toNat<256:=c.toNat_lt;have x0:=ok.x0;have x1:=ok.x1;have w40:=ok.w2;clear h ok;have k13:((c.toNat:Int)==13)=false:=by simp;omega
 have k10:((c.toNat:Int)==10)=false:=by simp;omega
 have k8:((c.toNat:Int)==8)=true:=by simp;omega
 have f3:=HR.out.f3;have f4:=HR.out.f4;have hwr:IntKind.i64.wrap (s.x-1)=s.x-1:=zm _ (by omega) (by omega);clear hc;go_in;go_wp2_with fail;go_region_with (first|(go_at_call 91;refine(zdU bs bc g cap N s (s.x-1) s.y _ HR.out.drew).mono ?_;rintro e w5 ⟨rfl,R5,K5⟩));all_goals
  have R9:zi w5 bs bc g cap N (zw s c):=by rw[HD.out];exact R5
  have K6:zd (λi=>i=bs\/i=bc\/i=g) w w5:=(⟨K5.os,K5.tape,K5.output,K5.size,K5.block⟩:zd (λi=>i=bs) w w5).mono (λi hi=>.inl hi);clear R5 K5;go_wp2_with fail;go_end0;exact Z5 R9 K6 (.inl rfl)
theorem zrC (bs bc g cap N:Nat) (s:Rs) (c:UInt8) (w:World) (h:zi w bs bc g cap N s) (ok:s.Ok) (hc:(c.toNat:Int)=27):
 Calls Tryz.prog 164 #[.pointer (some ⟨bs,0,none⟩),.int .u8 c.toNat] w (zac bs bc g w (zw s c) (.tuple #[])):=by
 have HD:Hid (zw s c={s with B:=⟨#[27]⟩}):=by
  show zw s c={s with B:=⟨#[27]⟩};unfold zw;rw[if_neg (by omega),if_neg (by omega),if_neg (by omega),if_pos hc]
 have HR:=zH h;have Hok:=zH ok;have hc256:c.toNat<256:=c.toNat_lt;have x0:=ok.x0;have x1:=ok.x1;have w40:=ok.w2;clear h ok;have k13:((c.toNat:Int)==13)=false:=by simp;omega
 have k10:((c.toNat:Int)==10)=false:=by simp;omega
 have k8:((c.toNat:Int)==8)=false:=by simp;omega
 have k27:((c.toNat:Int)==27)=true:=by simp;omega
 have f14:=HR.out.f14;have fr:=HR.out.free;clear hc;go_in;go_wp2_with fail;go_end0;have R9:zi (w.setCell ⟨bs,14,none⟩ (.string ⟨#[27]⟩)) bs bc g cap N (zw s c):=by rw[HD.out];exact HR.out.setB _
 exact Z5 R9 ((zd.refl _ w).setCell ⟨bs,14,none⟩ _ (λ_=>.inl rfl)) (.inl rfl)
theorem zpn (bs bc g cap N:Nat) (s:Rs) (c:UInt8) (w:World) (h:zi w bs bc g cap N s) (ok:s.Ok) (h1:32<=(c.toNat:Int)) (h2:(c.toNat:Int)<=126):
 Calls Tryz.prog 164 #[.pointer (some ⟨bs,0,none⟩),.int .u8 c.toNat] w (zac bs bc g w (zw s c) (.tuple #[])):=by
 have HD:Hid (zw s c=zba s c.toNat):=by
  show zw s c=zba s c.toNat;unfold zw;rw[if_neg (by omega),if_neg (by omega),if_neg (by omega),if_neg (by omega),if_pos ⟨h1,h2⟩]
 have HR:=zH h;have Hok:=zH ok;have hc256:c.toNat<256:=c.toNat_lt;have x0:=ok.x0;have x1:=ok.x1;have w40:=ok.w2;clear h ok;have k13:((c.toNat:Int)==13)=false:=by simp;omega
 have k10:((c.toNat:Int)==10)=false:=by simp;omega
 have k8:((c.toNat:Int)==8)=false:=by simp;omega
 have k27:((c.toNat:Int)==27)=false:=by simp;omega
 go_in;go_wp2_with fail;go_at_call 165;refine(zrz bs bc g cap N s c.toNat _ HR.out Hok.out (by omega) (by omega)).mono ?_;rintro e w5 ⟨g5,cap5,N5,rfl,R5,K5,hg5⟩;have R9:zi w5 bs bc g5 cap5 N5 (zw s c):=by rw[HD.out];exact R5
 have Hg:=zH hg5;clear R5 hg5;go_wp2_with fail;go_end0;exact Z5 R9 K5 Hg.out
theorem zmR (bs bc g cap N:Nat) (s:Rs) (c:UInt8) (w:World) (h:zi w bs bc g cap N s) (ok:s.Ok) (h1:126<(c.toNat:Int)) (h2:0<zQ c.toNat):
 Calls Tryz.prog 164 #[.pointer (some ⟨bs,0,none⟩),.int .u8 c.toNat] w (zac bs bc g w (zw s c) (.tuple #[])):=by
 have HD:Hid (zw s c={s with B:=⟨#[c]⟩}):=by
  show zw s c={s with B:=⟨#[c]⟩};unfold zw;rw[if_neg (by omega),if_neg (by omega),if_neg (by omega),if_neg (by omega),if_neg (by omega),if_pos h2]
 have HR:=zH h;have Hok:=zH ok;have hc256:c.toNat<256:=c.toNat_lt;have x0:=ok.x0;have x1:=ok.x1;have w40:=ok.w2;clear h ok;have k13:((c.toNat:Int)==13)=false:=by simp;omega
 have k10:((c.toNat:Int)==10)=false:=by simp;omega
 have k8:((c.toNat:Int)==8)=false:=by simp;omega
 have k27:((c.toNat:Int)==27)=false:=by simp;omega
 have f14:=HR.out.f14;have fr:=HR.out.free;have l:=HR.out.lt;go_in;go_wp2_with fail;go_at_call 134;refine sM (zfK c.toNat _ (by omega) (by omega)) ?_;have hcv:=zim c (w.alloc (.cells #[.int .u8 c.toNat] 5)) w.heap.size (za (zf w _) 0);go_wp2_with fail;go_end0;have R9:zi ((w.setCell ⟨bs,14,none⟩ (.string ⟨#[c]⟩)).alloc (.cells #[.int .u8 c.toNat] 5)) bs bc g cap N (zw s c):=by rw[HD.out];exact(HR.out.setB _).below ((Below.refl _ _).alloc (Nat.le_refl _) _)
 exact Z5 R9 (((zd.refl _ w).setCell ⟨bs,14,none⟩ _ (λ_=>.inl rfl)).alloc _) (.inl rfl)
theorem zmS (bs bc g cap N:Nat) (s:Rs) (c:UInt8) (w:World) (h:zi w bs bc g cap N s) (ok:s.Ok) (h1:(c.toNat:Int)<32) (n13:(c.toNat:Int)≠13) (n10:(c.toNat:Int)≠10) (n8:(c.toNat:Int)≠8) (n27:(c.toNat:Int)≠27):
 Calls Tryz.prog 164 #[.pointer (some ⟨bs,0,none⟩),.int .u8 c.toNat] w (zac bs bc g w (zw s c) (.tuple #[])):=by
 have HD:Hid (zw s c=zbn s):=by
  show zw s c=zbn s;unfold zw;rw[if_neg n13,if_neg n10,if_neg n8,if_neg n27,if_neg (by omega),if_neg (by unfold zQ;rw[if_neg (by omega),if_neg (by omega),if_neg (by omega)];decide)]
 have HR:=zH h;have Hok:=zH ok;have hc256:c.toNat<256:=c.toNat_lt;have x0:=ok.x0;have x1:=ok.x1;have w40:=ok.w2;clear h ok;have k13:((c.toNat:Int)==13)=false:=by simp;omega
 have k10:((c.toNat:Int)==10)=false:=by simp;omega
 have k8:((c.toNat:Int)==8)=false:=by simp;omega
 have k27:((c.toNat:Int)==27)=false:=by simp;omega
 have f15:=HR.out.f15;have fr:=HR.out.free;have l:=HR.out.lt;have hl:zQ c.toNat=0:=by unfold zQ;rw[if_neg (by omega),if_neg (by omega),if_neg (by omega)]
 clear n13 n10 n8 n27;go_in;go_wp2_with fail;go_at_call 134;refine sM (zfK c.toNat _ (by omega) (by omega)) ?_;go_wp2_with fail;go_end0;have R9:zi (w.setCell ⟨bs,15,none⟩ (.int .i64 (wrap64 (s.odd+1)))) bs bc g cap N (zw s c):=by rw[HD.out];exact HR.out.setOdd _
 exact Z5 R9 ((zd.refl _ w).setCell ⟨bs,15,none⟩ _ (λ_=>.inl rfl)) (.inl rfl)
theorem zmT (bs bc g cap N:Nat) (s:Rs) (c:UInt8) (w:World) (h:zi w bs bc g cap N s) (ok:s.Ok) (h1:126<(c.toNat:Int)) (hl:zQ c.toNat=0):
 Calls Tryz.prog 164 #[.pointer (some ⟨bs,0,none⟩),.int .u8 c.toNat] w (zac bs bc g w (zw s c) (.tuple #[])):=by
 have HD:Hid (zw s c=zbn s):=by
  show zw s c=zbn s;unfold zw;rw[if_neg (by omega),if_neg (by omega),if_neg (by omega),if_neg (by omega),if_neg (by omega),if_neg (by rw[hl];decide)]
 have HR:=zH h;have Hok:=zH ok;have hc256:c.toNat<256:=c.toNat_lt;have x0:=ok.x0;have x1:=ok.x1;have w40:=ok.w2;clear h ok;have k13:((c.toNat:Int)==13)=false:=by simp;omega
 have k10:((c.toNat:Int)==10)=false:=by simp;omega
 have k8:((c.toNat:Int)==8)=false:=by simp;omega
 have k27:((c.toNat:Int)==27)=false:=by simp;omega
 have f15:=HR.out.f15;have fr:=HR.out.free;have l:=HR.out.lt;go_in;go_wp2_with fail;go_at_call 134;refine sM (zfK c.toNat _ (by omega) (by omega)) ?_;go_wp2_with fail;go_end0;have R9:zi (w.setCell ⟨bs,15,none⟩ (.int .i64 (wrap64 (s.odd+1)))) bs bc g cap N (zw s c):=by rw[HD.out];exact HR.out.setOdd _
 exact Z5 R9 ((zd.refl _ w).setCell ⟨bs,15,none⟩ _ (λ_=>.inl rfl)) (.inl rfl)
theorem zjs (bs bc g cap N:Nat) (s:Rs) (c:UInt8) (w:World) (h:zi w bs bc g cap N s) (ok:s.Ok):
 Calls Tryz.prog 164 #[.pointer (some ⟨bs,0,none⟩),.int .u8 c.toNat] w (zac bs bc g w (zw s c) (.tuple #[])):=by
 have hc256:c.toNat<256:=c.toNat_lt;by_cases h13:(c.toNat:Int)=13
 ·exact zrA bs bc g cap N s c w h ok h13
 by_cases h10:(c.toNat:Int)=10
 ·exact zrB bs bc g cap N s c w h ok h10
 by_cases h8:(c.toNat:Int)=8
 ·exact zti bs bc g cap N s c w h ok h8
 by_cases h27:(c.toNat:Int)=27
 ·exact zrC bs bc g cap N s c w h ok h27
 by_cases h1:(c.toNat:Int)<32
 ·exact zmS bs bc g cap N s c w h ok h1 h13 h10 h8 h27
 by_cases h2:(c.toNat:Int)<=126
 ·exact zpn bs bc g cap N s c w h ok (by omega) h2
 by_cases h3:0<zQ c.toNat
 ·exact zmR bs bc g cap N s c w h ok (by omega) h3
 ·refine zmT bs bc g cap N s c w h ok (by omega) ?_;unfold zQ at h3 ⊢;split at h3
  ·omega
  ·split at h3
   ·omega
   ·split at h3
    ·omega
    ·rw[if_neg (by assumption),if_neg (by assumption),if_neg (by assumption)]
theorem zw5 (bs bc g cap N:Nat) (s:Rs) (c:UInt8) (w:World) (h:zi w bs bc g cap N s) (ok:s.Ok) (hB:s.B=⟨#[]⟩):
 Calls Tryz.prog 130 #[.pointer (some ⟨bs,0,none⟩),.int .u8 c.toNat] w (zac bs bc g w (zw s c) (.tuple #[])):=by
 have HR:=zH h;have Hok:=zH ok;have hc256:c.toNat<256:=c.toNat_lt;have fr:=HR.out.free;have f15:=HR.out.f15;have f14:=HR.out.f14;have l:=HR.out.lt;clear h ok;rw[hB] at f14;clear hB;go_in;go_wp2_with fail;go_at_call 164;refine(zjs bs bc g cap N s c _ HR.out Hok.out).mono ?_;rintro e w5 ⟨g5,cap5,N5,rfl,R5,K5,hg5⟩;have HR5:=zH R5;have Hg:=zH hg5;have K6:=K5;clear R5 hg5;go_wp2_with fail;go_end0;exact Z5 HR5.out K6 Hg.out
theorem zuZ (bs bc g cap N:Nat) (s:Rs) (c:UInt8) (w:World) (h:zi w bs bc g cap N s) (hB:s.B=⟨#[27]⟩) (hc:(c.toNat:Int)=91):
 Calls Tryz.prog 130 #[.pointer (some ⟨bs,0,none⟩),.int .u8 c.toNat] w (zac bs bc g w ({s with B:=⟨#[27,91]⟩}) (.tuple #[])):=by
 have HR:=zH h;have hc0:c.toNat<257:=by have:=c.toNat_lt;omega
 have hc256:c.toNat<256:=c.toNat_lt;have fr:=HR.out.free;have f15:=HR.out.f15;have f14:=HR.out.f14;have l:=HR.out.lt;clear h;rw[hB] at f14;clear hB;have e0:(({data:=#[27]}:ByteArray)[0]'(Nat.one_pos)).toNat=27:=rfl;have k91:((c.toNat:Int)==91)=true:=by simp;omega
 clear hc;go_in;go_wp2_with fail;go_end0;exact Z5 (HR.out.setB ⟨#[27,91]⟩) ((zd.refl _ w).setCell ⟨bs,14,none⟩ _ (λ_=>.inl rfl)) (.inl rfl)
theorem zu0 (bs bc g cap N:Nat) (s:Rs) (c:UInt8) (w:World) (h:zi w bs bc g cap N s) (hB:s.B=⟨#[27]⟩) (hc:(c.toNat:Int)=27):
 Calls Tryz.prog 130 #[.pointer (some ⟨bs,0,none⟩),.int .u8 c.toNat] w (zac bs bc g w (zbn s) (.tuple #[])):=by
 have HR:=zH h;have hc0:c.toNat<257:=by have:=c.toNat_lt;omega
 have hc256:c.toNat<256:=c.toNat_lt;have fr:=HR.out.free;have f15:=HR.out.f15;have f14:=HR.out.f14;have l:=HR.out.lt;clear h;rw[hB] at f14;clear hB;have e0:(({data:=#[27]}:ByteArray)[0]'(Nat.one_pos)).toNat=27:=rfl;have k91:((c.toNat:Int)==91)=false:=by simp;omega
 have k27:((c.toNat:Int)==27)=true:=by simp;omega
 clear hc;go_in;go_wp2_with fail;go_end0;exact Z5 (s:=zbn s) (HR.out.setOdd _) ((zd.refl _ w).setCell ⟨bs,15,none⟩ _ (λ_=>.inl rfl)) (.inl rfl)
theorem zwl (bs bc g cap N:Nat) (s:Rs) (c:UInt8) (w:World) (h:zi w bs bc g cap N s) (hB:s.B=⟨#[27]⟩) (hc:(c.toNat:Int)≠91) (hc':(c.toNat:Int)≠27):
 Calls Tryz.prog 130 #[.pointer (some ⟨bs,0,none⟩),.int .u8 c.toNat] w (zac bs bc g w (zbn {s with B:=⟨#[]⟩}) (.tuple #[])):=by
 have HR:=zH h;have hc0:c.toNat<257:=by have:=c.toNat_lt;omega
 have hc256:c.toNat<256:=c.toNat_lt;have fr:=HR.out.free;have f15:=HR.out.f15;have f14:=HR.out.f14;have l:=HR.out.lt;clear h;rw[hB] at f14;clear hB;have e0:(({data:=#[27]}:ByteArray)[0]'(Nat.one_pos)).toNat=27:=rfl;have k91:((c.toNat:Int)==91)=false:=by simp;omega
 have k27:((c.toNat:Int)==27)=false:=by simp;omega
 clear hc hc';go_in;go_wp2_with fail;go_end0;exact Z5 (s:=zbn {s with B:=⟨#[]⟩}) ((HR.out.setB ⟨#[]⟩).setOdd (wrap64 (s.odd+1))) (((zd.refl _ w).setCell ⟨bs,14,none⟩ _ (λ_=>.inl rfl)).setCell ⟨bs,15,none⟩ _ (λ_=>.inl rfl)) (.inl rfl)
theorem zu1 (bs bc g cap N:Nat) (s:Rs) (c:UInt8) (bb:ByteArray) (w:World) (h:zi w bs bc g cap N s) (hB:s.B=bb) (h2:2<=bb.size) (e0:(bb[0]'(by omega)).toNat=27) (hc:(c.toNat:Int)=27):
 Calls Tryz.prog 130 #[.pointer (some ⟨bs,0,none⟩),.int .u8 c.toNat] w (zac bs bc g w (zbn {s with B:=⟨#[27]⟩}) (.tuple #[])):=by
 have HR:=zH h;have hc0:c.toNat<257:=by have:=c.toNat_lt;omega
 have hc256:c.toNat<256:=c.toNat_lt;have fr:=HR.out.free;have f15:=HR.out.f15;have f14:=HR.out.f14;have l:=HR.out.lt;clear h;rw[hB] at f14;clear hB;have hsz:0<bb.size:=by omega
 have hem:bb.toList.isEmpty=false:=by
  rw[←Bool.not_eq_true,List.isEmpty_iff];intro e;have:=congrArg List.length e;rw[ByteArray.toList_eq] at this;simp at this;rw[this] at h2;exact absurd h2 (by decide)
 have h1:((bb.size:Int)==1)=false:=by simp;omega
 have hlen:(2:Int)<=(bb.size:Int):=by omega
 have k27:((c.toNat:Int)==27)=true:=by simp;omega
 clear hc;go_in;go_wp2_with fail;go_end0;exact Z5 (s:=zbn {s with B:=⟨#[27]⟩}) ((HR.out.setB ⟨#[27]⟩).setOdd (wrap64 (s.odd+1))) (((zd.refl _ w).setCell ⟨bs,14,none⟩ _ (λ_=>.inl rfl)).setCell ⟨bs,15,none⟩ _ (λ_=>.inl rfl)) (.inl rfl)
theorem zwm (bs bc g cap N:Nat) (s:Rs) (c:UInt8) (bb:ByteArray) (w:World) (h:zi w bs bc g cap N s) (ok:s.Ok) (hB:s.B=bb) (h2:2<=bb.size) (e0:(bb[0]'(by omega)).toNat=27) (hb:bb.size<=100000000000) (c1:64<=(c.toNat:Int)) (c2:(c.toNat:Int)<=126):
 Calls Tryz.prog 130 #[.pointer (some ⟨bs,0,none⟩),.int .u8 c.toNat] w (zac bs bc g w (ze2 {s with B:=⟨#[]⟩} (bb.extract 2 bb.size) c.toNat) (.tuple #[])):=by
 have HR:=zH h;have Hok:=zH ok;have hc256:c.toNat<256:=c.toNat_lt;have fr:=HR.out.free;have f15:=HR.out.f15;have f14:=HR.out.f14;have l:=HR.out.lt;clear h ok;rw[hB] at f14;clear hB;have hsz:0<bb.size:=by omega
 have hem:bb.toList.isEmpty=false:=by
  rw[←Bool.not_eq_true,List.isEmpty_iff];intro e;have:=congrArg List.length e;rw[ByteArray.toList_eq] at this;simp at this;rw[this] at h2;exact absurd h2 (by decide)
 have h1:((bb.size:Int)==1)=false:=by simp;omega
 have hlen:(2:Int)<=(bb.size:Int):=by omega
 have k27:((c.toNat:Int)==27)=false:=by simp;omega
 have ok2:Hid (Rs.Ok {s with B:=⟨#[]⟩}):=⟨Hok.out.w1,Hok.out.w2,Hok.out.h1,Hok.out.h2,Hok.out.x0,Hok.out.x1,Hok.out.y0,Hok.out.y1,Hok.out.t0,Hok.out.tb,Hok.out.b1,Hok.out.pd,Hok.out.wf⟩;go_in;go_wp2_with fail;go_at_call 166;refine(zt0 bs bc g cap N {s with B:=⟨#[]⟩} (bb.extract 2 bb.size) c.toNat _ (HR.out.setB ⟨#[]⟩) ok2.out (by simp;omega)).mono ?_;rintro e w5 ⟨g5,cap5,N5,rfl,R5,K5,hg5⟩;have HR5:=zH R5;have Hg:=zH<|hg5.imp id (λq=>by rw[zbA] at q;exact q)
 have K6:=((zd.refl (λi=>i=bs\/i=bc\/i=g) w).setCell ⟨bs,14,none⟩ (.string ⟨#[]⟩) (λ_=>.inl rfl)).trans K5 (λ_ _ h=>h);clear R5 hg5 K5;go_wp2_with fail;go_end0;exact Z5 HR5.out K6 Hg.out
theorem zwn (bs bc g cap N:Nat) (s:Rs) (c:UInt8) (bb:ByteArray) (w:World) (h:zi w bs bc g cap N s) (hB:s.B=bb) (h2:2<=bb.size) (e0:(bb[0]'(by omega)).toNat=27) (hb:bb.size<=100000000000) (hc:(c.toNat:Int)≠27) (hcc:(c.toNat:Int)<64\/126<(c.toNat:Int)):
 Calls Tryz.prog 130 #[.pointer (some ⟨bs,0,none⟩),.int .u8 c.toNat] w (zac bs bc g w ({s with B:=bb ++ ⟨#[c]⟩}) (.tuple #[])):=by
 have HR:=zH h;have hc0:c.toNat<257:=by have:=c.toNat_lt;omega
 have hc256:c.toNat<256:=c.toNat_lt;have fr:=HR.out.free;have f15:=HR.out.f15;have f14:=HR.out.f14;have l:=HR.out.lt;clear h;rw[hB] at f14;clear hB;have hsz:0<bb.size:=by omega
 have hem:bb.toList.isEmpty=false:=by
  rw[←Bool.not_eq_true,List.isEmpty_iff];intro e;have:=congrArg List.length e;rw[ByteArray.toList_eq] at this;simp at this;rw[this] at h2;exact absurd h2 (by decide)
 have h1:((bb.size:Int)==1)=false:=by simp;omega
 have hlen:(2:Int)<=(bb.size:Int):=by omega
 have k27:((c.toNat:Int)==27)=false:=by simp;omega
 clear hc;have hcv:=zim c (w.alloc (.cells #[.int .u8 c.toNat] 5)).drew w.heap.size (za (zf w _) 0);go_in;rcases hcc with hcc|hcc;all_goals
  go_wp2_with fail;go_region;all_goals
   go_wp2_with fail;go_end0;have R9:zi ((w.setCell ⟨bs,14,none⟩ (.string (bb ++ ⟨#[c]⟩))).alloc (.cells #[.int .u8 c.toNat] 5)).drew bs bc g cap N {s with B:=bb ++ ⟨#[c]⟩}:=((HR.out.setB (bb ++ ⟨#[c]⟩)).below ((Below.refl _ _).alloc (Nat.le_refl _) _)).drew;exact Z5 R9 (((zd.refl _ w).setCell ⟨bs,14,none⟩ _ (λ_=>.inl rfl)).alloc _).drew (.inl rfl)
end
end Go.Proofs.YtjlfibhbfdckpaaGreatDoor
