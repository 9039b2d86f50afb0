import Derived.Test.YtjlfibhbfdckpaaGreatDoorV22
namespace Go.Proofs.YtjlfibhbfdckpaaGreatDoor
set_option maxHeartbeats 64000000
set_option maxRecDepth 100000
section
open Go.RowKit
attribute [local go_sem ↓] Go.wp_at_zero Go.wp_at_succ
def Zt (x y:Int):Bool:=Wd.inB x (-1000) 1000&&Wd.inB y (-1000) 1000
theorem zbH {x y:Int}:Zt x y=true↔-1000<=x/\x<=1000/\-1000<=y/\y<=1000:=by simp[Zt,Wd.inB,and_assoc]
def zch (L:List Wn) (n:Int):Bool:=L.any (λv=>decide (v.n=n))
theorem zaX {L:List Wn} {n:Int}:zch L n=true↔∃v∈L,v.n=n:=by simp[zch]
def Mm.fnd (M:Mm) (L:List Wn) (n:Int):Option Addr:=if zch L n=true then some ⟨M.b n,0,none⟩ else none
theorem Mm.fnd_in (M:Mm) {L:List Wn} {v:Wn} (hv:v∈L):M.fnd L v.n=some ⟨M.b v.n,0,none⟩:=if_pos (zaX.2 ⟨v,hv,rfl⟩)
theorem Mm.fnd_no (M:Mm) {L:List Wn} {n:Int} (h:zch L n=false):M.fnd L n=none:=if_neg (by simp[h])
theorem zbX (x y:Int) (w:World):
 Calls Tryz.prog 76 #[.int .i64 x,.int .i64 y] w λe w'=>e=.returned (.bool (Zt x y))/\w'=w:=by
 cases h1:Wd.inB x (-1000) 1000<;>cases h2:Wd.inB y (-1000) 1000;all_goals
  go_in;go_wp2_with (first|(go_at_call 107;refine sM (zan _ _ _ _) ?_));go_ret;exact⟨by simp[Zt,h1,h2],rfl⟩
section
variable {M:Mm} {L:List Wn} {last:Int} {N:Nat} {s:Rs} {t:Pt}
theorem zr2 (ok:ZK L last) (w:World) (h:zI w M L last N s t) (n:Int):
 Calls Tryz.prog 131 #[.pointer (some ⟨M.t 1,0,none⟩),.int .i64 n] w λe w'=>e=.returned (.pointer (M.fnd L n))/\w'=w:=by
 obtain⟨rk,K,T⟩:=ok.tree;obtain⟨r,hr,hr0,_⟩:=T.rootIn;have hf:=zvv T n w h K r hr (by omega);rw[hr0] at hf;have e:(if zjz L K 0 n=true then some (⟨M.b n,0,none⟩:Addr) else none)=M.fnd L n:=by
  unfold Mm.fnd;by_cases hh:zch L n=true
  ·rw[if_pos hh,if_pos ((T.hasRoot n).2 (zaX.1 hh))]
  ·rw[if_neg hh,if_neg (λh'=>hh (zaX.2 ((T.hasRoot n).1 h')))]
 rw[e] at hf;have Hf:=zH hf;have d0:=h.d0;clear hf e h;go_in;go_wp2_with (first|(go_at_call 167;refine sM Hf.out ?_));go_ret;exact⟨rfl,rfl⟩
theorem zbj (ok:ZK L last) (w:World) (h:zI w M L last N s t) (n:Int):
 Calls Tryz.prog 75 #[.pointer (some ⟨M.t 0,0,none⟩),.int .i64 n] w λe w'=>e=.returned (.pointer (M.fnd L n))/\w'=w:=by
 have c0:=h.c0;have HD:=zH h;clear h;go_in;go_wp2_with (first|(go_at_call 41;refine sM (ziJ _ HD.out) ?_)|(go_at_call 131;refine sM (zr2 ok _ HD.out _) ?_));go_ret;exact⟨rfl,rfl⟩
theorem zdz (n:Int) (w:World):
 Calls Tryz.prog 75 #[.pointer none,.int .i64 n] w λe w'=>e=.returned (.pointer none)/\w'=w:=by
 go_in;go_wp2_with (first|(go_at_call 41;refine sM (zfD _) ?_));go_ret;exact⟨rfl,rfl⟩
theorem ztC (ok:ZK L last) (w:World) (h:zI w M L last N s t):
 Calls Tryz.prog 109 #[.pointer (some ⟨M.t 1,0,none⟩)] w λe w'=>e=.returned (.bool (decide (16<=L.length)))/\w'=w:=by
 obtain⟨rk,K,T⟩:=ok.tree;obtain⟨r,hr,hr0,_⟩:=T.rootIn;have hf:=zt1 T w h ok.len K r hr (by omega);rw[hr0,T.count] at hf;have Hf:=zH hf;have d0:=h.d0;have hl:=ok.len;clear hf h;by_cases hc:16<=L.length
 ·have hd:(16:Int)<=(L.length:Int):=by omega
  go_in;go_wp2_with (first|(go_at_call 149;refine sM Hf.out ?_));go_ret;exact⟨by simp[hc],rfl⟩
 ·have hd:¬(16:Int)<=(L.length:Int):=by omega
  go_in;go_wp2_with (first|(go_at_call 149;refine sM Hf.out ?_));go_ret;exact⟨by simp[hc];omega,rfl⟩
theorem zr3 (ok:ZK L last) (w:World) (h:zI w M L last N s t) (v:Wn) (hv:v∈L) (x y:Int) (W H:Nat) (w1:1<=W) (w2:W<=40) (h1:1<=H) (h2:H<=20) (hp:Zt x y=true) (hlen:L.length<16) (hlast:last<9223372036854775807):
 Calls Tryz.prog 48 #[.pointer (some ⟨M.t 0,0,none⟩),.int .i64 v.n,.int .i64 x,.int .i64 y,.int .i64 W,.int .i64 H] w λe w'=>∃M',e=.returned (.tuple #[.int .i64 (last+1),.int .i64 0])/\zI w' M' (L ++ [⟨last+1,v.n,x,y,true,W,H,λ_ _=>blk Pn.plain⟩]) (last+1) N s t/\M'.t=M.t/\zd (M.own L) w w'/\∀i,M'.own (L ++ [⟨last+1,v.n,x,y,true,W,H,λ_ _=>blk Pn.plain⟩]) i->M.own L i\/w.heap.size<=i:=by
 have c0:=h.c0;have HD:=zH h;have hs:ZC W H=true:=Zs.2 (by omega);have hf:=M.fnd_in hv;have hnf:decide (16<=L.length)=false:=by simp;omega
 clear h;go_in;go_wp2_with (first|(go_at_call 75;refine sM (zbj ok _ HD.out _) ?_)|(go_at_call 76;refine sM (zbX _ _ _) ?_)|(go_at_call 46;refine sM (zcg _ _ _) ?_)|(go_at_call 109;refine sM (ztC ok _ HD.out) ?_));go_at_call 110;refine(zr1 ok _ HD.out v hv x y W H w1 w2 h1 h2 hlast).mono ?_;rintro e wa ⟨M',rfl,D1,ht,K1,O1⟩;have HD1:=zH D1;clear D1;go_wp2_with fail;go_ret2;exact⟨M',rfl,HD1.out,ht,K1,O1⟩
end
end
section
open Wd (wd)
def Zh (s:ByteArray):Nat->Nat->List Int
 |0,_=>[]
 |f+1,pos=>if pos<s.size then(if wd ((Utf8.decode s pos).1:Int)=0 then 65533 else((Utf8.decode s pos).1:Int))::Zh s f (pos+(Utf8.decode s pos).2) else[]
def writeAll (W H:Nat) (y:Int) (p:Pn):Int->List Int->(Nat->Nat->zk)->Nat->Nat->zk
 |_,[],G=>G
 |x,r::l,G=>writeAll W H y p (x+wd r) l (zR W H G x y r p)
theorem zcY {W H:Nat} {G:Nat->Nat->zk} {x y:Int} (h:inG W H x y=false) (k:zk):setG W H G x y k=G:=by
 unfold setG;rw[if_neg (by simp[h])]
theorem zky {W H:Nat} {x y:Int} (hy:¬(0<=y/\y<H)):inG W H x y=false:=by
 rw[Bool.eq_false_iff];intro h;obtain⟨_,_,a,b⟩:=zu.1 h;exact hy ⟨a,b⟩
theorem zl3 {W H:Nat} {G:Nat->Nat->zk} {x y:Int} (hy:¬(0<=y/\y<H)) (r:Int) (p:Pn):zR W H G x y r p=G:=by
 unfold zR;split
 ·exact zcY (zky hy) _
 ·rw[if_neg (by rw[zky hy];simp),zcY (zky hy),zcY (zky hy)]
theorem zjH {W H:Nat} {y:Int} (hy:¬(0<=y/\y<H)) (p:Pn) (l:List Int):∀(x:Int) (G:Nat->Nat->zk),writeAll W H y p x l G=G:=by
 induction l with
 |nil=>intro x G;rfl
 |cons r l ih=>intro x G;unfold writeAll;rw[zl3 hy,ih]
theorem Wf.write {W H:Nat} {G:Nat->Nat->zk} (h:Wf W H G) (x y:Int) (r:Int) (p:Pn) (hr:wd r=1\/wd r=2):Wf W H (zR W H G x y r p):=by
 by_cases h1:wd r=1
 ·unfold zR;rw[if_pos h1];exact h.set _ _ _ rfl h1
 ·by_cases hin:inG W H x y=true/\inG W H (x+1) y=true
  ·obtain⟨a,b,c,d⟩:=zu.1 hin.1;obtain⟨a2,b2,_,_⟩:=zu.1 hin.2;obtain⟨x,rfl⟩:=Int.eq_ofNat_of_zero_le a;obtain⟨y,rfl⟩:=Int.eq_ofNat_of_zero_le c;have h2:wd r=2:=by omega
   exact(h.wide (by omega) r p h2).congr (zcS h (by omega) (by omega) r p h2).symm
  ·unfold zR;rw[if_neg h1,if_neg hin];exact(h.setBlk _ _ _).setBlk _ _ _
theorem Wf.writeAll {W H:Nat} {y:Int} {p:Pn}:∀(l:List Int) (x:Int) {G:Nat->Nat->zk},Wf W H G->(∀r∈l,wd r=1\/wd r=2)->Wf W H (Go.Proofs.YtjlfibhbfdckpaaGreatDoor.writeAll W H y p x l G)
 |[],_,_,hG,_=>hG
 |r::l,x,_,hG,hl=>Wf.writeAll l _ (hG.write x y r p (hl r List.mem_cons_self)) (λq hq=>hl q (List.mem_cons_of_mem _ hq))
end
section
open Go.RowKit Go.Lib
open Wd (wd)
attribute [local go_sem ↓] Go.wp_at_zero Go.wp_at_succ
theorem zr4 {W H:Nat} {G:Nat->Nat->zk} (h:Wf W H G) {x y:Nat} (hx:x<W) (hy:y<H) (r:Int) (p:Pn) (hr:wd r=1):ZX W H (ziu r p x y G) (zR W H G x y r p):=by
 refine ZX.trans ?_ (zdT h hx hy r p hr).symm;unfold ziu;refine zbm h (λa b _ _=>?_) (λa b _ _ hP=>?_)
 ·rw[Bool.eq_iff_iff,Zv,zcR,if_neg (by omega)];omega
 ·simp[zdV,hr]
theorem zr5 {W H:Nat} {G:Nat->Nat->zk} (h:Wf W H G) {x y:Nat} (hx:x+1<W) (hy:y<H) (r:Int) (p:Pn) (hr:wd r=2):ZX W H (ziu r p x y G) (zR W H G x y r p):=by
 refine ZX.trans ?_ (zcS h hx hy r p hr).symm;unfold ziu;refine zbm h (λa b _ _=>?_) (λa b _ _ hP=>?_)
 ·rw[Bool.eq_iff_iff,Zv,if_pos hr,pt2,Bool.or_eq_true,zcR,zcR];omega
 ·simp[zdV,hr,wide]
theorem ziK {W H:Nat} {G:Nat->Nat->zk} {x y:Nat} (p:Pn) (x0 x1:Int) (h:∀a:Nat,a<W->¬(x0<=a/\(a:Int)<x1)):zaH W x0 x1 y p G=G:=by
 have _:=x;have _:=H;unfold zaH;refine zg2 _ _ _ (λa b=>?_);rw[Bool.eq_false_iff];intro hc;simp at hc;exact h a hc.2 ⟨hc.1.1.2,hc.1.2⟩
theorem ziL {W H:Nat} {G:Nat->Nat->zk} (h:Wf W H G) {x y:Nat} (hx:x<W) (hy:y<H) (p:Pn) (x0 x1:Int) (hx0:∀a:Nat,a<W->((x0<=a/\(a:Int)<x1)↔a=x)):ZX W H (zaH W x0 x1 y p G) (setG W H G x y (blk p)):=by
 refine ZX.trans ?_ (zeR h hx hy _).symm;unfold zaH;refine zbm h (λa b ha _=>?_) (λ_ _ _ _ _=>rfl);have:=hx0 a ha;rw[Bool.eq_iff_iff,zcR];simp;omega
theorem zkz {W H:Nat} {G:Nat->Nat->zk} (h:Wf W H G) (x:Int) {y:Nat} (hy:y<H) (r:Int) (p:Pn) (hr:wd r=1\/wd r=2) (hn:¬(inG W H x y=true/\inG W H (x+wd r-1) y=true)):ZX W H (zaH W x (x+wd r) y p G) (zR W H G x y r p):=by
 rcases hr with hr|hr
 ·rw[hr] at hn ⊢;have hno:inG W H x y=false:=by
   rw[Bool.eq_false_iff];intro hi;refine hn ⟨hi,?_⟩;rw[show x+1-1=x by omega];exact hi
  have ho:¬(0<=x/\x<W):=λhc=>by rw[zu.2 (by omega)] at hno;cases hno
  rw[ziK (H:=H) (x:=0) p _ _ (λa ha hc=>ho (by omega))];unfold zR;rw[if_pos hr,zcY hno];exact λ_ _ _ _=>rfl
 ·rw[hr] at hn ⊢;have hno:¬(inG W H x y=true/\inG W H (x+1) y=true):=by rw[show x+2-1=x+1 by omega] at hn;exact hn
  unfold zR;rw[if_neg (by omega),if_neg hno];by_cases h1:0<=x/\x<W
  ·obtain⟨k,rfl⟩:=Int.eq_ofNat_of_zero_le h1.1;have h2:inG W H ((k:Int)+1) y=false:=by
    rw[Bool.eq_false_iff];intro hi;exact hno ⟨zu.2 (by omega),hi⟩
   have h3:¬(k:Int)+1<W:=λhc=>by rw[zu.2 (by omega)] at h2;cases h2
   rw[zcY h2];exact ziL h (by omega) hy p _ _ (λa ha=>by omega)
  ·have h0:inG W H x y=false:=by rw[Bool.eq_false_iff];intro hi;obtain⟨a,b,_,_⟩:=zu.1 hi;exact h1 ⟨a,b⟩
   rw[zcY h0];by_cases h2:0<=x+1/\x+1<W
   ·obtain⟨k,hk⟩:=Int.eq_ofNat_of_zero_le h2.1;rw[hk];exact ziL h (by omega) hy p _ _ (λa ha=>by omega)
   ·have h4:inG W H (x+1) y=false:=by rw[Bool.eq_false_iff];intro hi;obtain⟨a,b,_,_⟩:=zu.1 hi;exact h2 ⟨a,b⟩
    rw[zcY h4,ziK (H:=H) (x:=0) p _ _ (λa ha hc=>by omega)];exact λ_ _ _ _=>rfl
theorem zwE (v:Wn) (bn cn gn:Nat) (pp:Option Addr) (sv:Value) (ks:List Value) (x:Int) (y:Nat) (r:Int) (p:Pn) (w:World) (h:Z9 w v bn cn gn pp sv ks) (hy:y<v.H) (hr:wd r=1\/wd r=2) (hx:-10000<=x/\x<=10000):
 Calls Tryz.prog 133 #[.pointer (some ⟨bn,0,none⟩),.int .i64 x,.int .i64 y,.int .i32 r,.int .i64 (wd r),p.agg] w λe w'=>e=.returned (.tuple #[])/\Zi w' cn gn v.W v.H (v.H*v.W) (zR v.W v.H v.G x y r p)/\zd (λi=>i=gn) w w':=by
 have HV:=zH h;have f5:=h.f5;have hbl:=h.lt;have hgl:=h.gr.glt;obtain⟨sz,hsz⟩:∃sz,wd r=sz:=⟨_,rfl⟩;have hs12:sz=1\/sz=2:=by omega
 rw[hsz];have Hsz:=zH hsz;clear h hsz;go_in;go_wp2_with (first|(go_at_call 103;fail));have hb1:Below w.heap.size w (w.alloc (.cells #[.int .i64 p.f,.int .i64 p.b,.bool p.bo,.bool p.un,.bool p.re] 33)):=(Below.refl _ _).alloc (Nat.le_refl _) _;have P1:=ZO w p 33;have s1:w.heap.size<(w.alloc (.cells #[.int .i64 p.f,.int .i64 p.b,.bool p.bo,.bool p.un,.bool p.re] 33)).heap.size:=by simp
 generalize w.alloc (.cells #[.int .i64 p.f,.int .i64 p.b,.bool p.bo,.bool p.un,.bool p.re] 33)=wa at *;have f5a:=(hb1.cell (p:=⟨bn,5,none⟩) hbl).trans f5;have HG:=zH<|HV.out.gr.below hb1
 have Hwf:=zH HV.out.wf;obtain⟨p0,p1,p2,p3,p4⟩:=P1;have K1:zd (λi=>i=gn) w wa:=zd.below _ hb1;clear f5 hb1 HV;by_cases hin:inG v.W v.H x y=true/\inG v.W v.H (x+sz-1) y=true
 ·obtain⟨hi1,hi2⟩:=hin;obtain⟨a1,a2,_,_⟩:=zu.1 hi1;obtain⟨b1,b2,_,_⟩:=zu.1 hi2;obtain⟨k,rfl⟩:=Int.eq_ofNat_of_zero_le a1;have Hput:Hid (Calls Tryz.prog 168 #[.pointer (some ⟨cn,0,none⟩),.int .i64 k,.int .i64 y,.int .i32 r,p.agg] wa.drew λe w'=>e=.returned (.tuple #[])/\Zi w' cn gn v.W v.H (v.H*v.W) (zR v.W v.H v.G k y r p)/\zd (λi=>i=gn) wa w'):=by
   have hd:=HG.out;have hd':Zi wa.drew cn gn v.W v.H (v.H*v.W) v.G:=hd.same rfl rfl;have hs:=Hsz.out;rcases hr with h1|h2
   ·refine(ztu cn gn v.W v.H _ v.G k y r p _ hd' Hwf.out hy h1 (by omega)).mono ?_;rintro e w' ⟨rfl,q,kk⟩;exact⟨rfl,q.congr (zr4 Hwf.out (by omega) hy r p h1),⟨kk.os,kk.tape,kk.output,kk.size,kk.block⟩⟩
   ·refine(ztt cn gn v.W v.H _ v.G k y r p _ hd' Hwf.out hy h2 (by omega)).mono ?_;rintro e w' ⟨rfl,q,kk⟩;exact⟨rfl,q.congr (zr5 Hwf.out (by omega) hy r p h2),⟨kk.os,kk.tape,kk.output,kk.size,kk.block⟩⟩
  clear a1 a2 b1 b2;go_wp2_with (first|(go_at_call 103;refine sM (zlU _ _ _ _ _ _ _ _ _ HG.out) ?_));go_region_with (first|(go_at_call 168;refine Hput.out.mono ?_;rintro e wb ⟨rfl,G2,K2⟩;have HG2:=zH<|G2;clear G2));all_goals
   go_wp2_with fail;refine bodyPost_ret (results_none rfl _ _ _) rfl ⟨rfl,HG2.out,K1.trans K2 (λ_ _ h=>h)⟩
 ·have hwx:IntKind.i64.wrap (x+sz)=x+sz:=zm _ (by omega) (by omega);have Herase:Hid (Calls Tryz.prog 140 #[.pointer (some ⟨cn,0,none⟩),.int .i64 x,.int .i64 (x+sz),.int .i64 y,p.agg] wa.drew λe w'=>e=.returned (.tuple #[])/\Zi w' cn gn v.W v.H (v.H*v.W) (zR v.W v.H v.G x y r p)/\zd (λi=>i=gn) wa w'):=by
   have hd':Zi wa.drew cn gn v.W v.H (v.H*v.W) v.G:=HG.out.same rfl rfl;have hs:=Hsz.out;subst hs;refine(zlV cn gn v.W v.H _ v.G x (x+wd r) y p _ hd' Hwf.out hy).mono ?_;rintro e w' ⟨rfl,q,kk⟩;exact⟨rfl,q.congr (zkz Hwf.out x hy r p hr hin),⟨kk.os,kk.tape,kk.output,kk.size,kk.block⟩⟩
  cases hi1:inG v.W v.H x y with
  |false=>
   clear hin;go_wp2_with (first|(go_at_call 103;refine sM (zlU _ _ _ _ _ _ _ _ _ HG.out) ?_));go_region_with (first|(go_at_call 140;refine Herase.out.mono ?_;rintro e wb ⟨rfl,G2,K2⟩;have HG2:=zH<|G2;clear G2));all_goals
    go_wp2_with fail;go_end0;exact⟨rfl,HG2.out,K1.trans K2 (λ_ _ h=>h)⟩
  |true=>
   have hi2:inG v.W v.H (x+sz-1) y=false:=by rw[Bool.eq_false_iff];exact λh=>hin ⟨hi1,h⟩
   clear hin;go_wp2_with (first|(go_at_call 103;refine sM (zlU _ _ _ _ _ _ _ _ _ HG.out) ?_));go_region_with (first|(go_at_call 140;refine Herase.out.mono ?_;rintro e wb ⟨rfl,G2,K2⟩;have HG2:=zH<|G2;clear G2));all_goals
    go_wp2_with fail;go_end0;exact⟨rfl,HG2.out,K1.trans K2 (λ_ _ h=>h)⟩
theorem ztD (v:Wn) (bn cn gn:Nat) (pp:Option Addr) (sv:Value) (ks:List Value) (y:Int) (w:World) (h:Z9 w v bn cn gn pp sv ks):
 Calls Tryz.prog 132 #[.pointer (some ⟨bn,0,none⟩),.int .i64 y] w λe w'=>e=.returned (.bool (inG v.W v.H 0 y))/\w'=w:=by
 have f5:=h.f5;have HG:=zH h.gr;clear h;go_in;go_wp2_with (first|(go_at_call 103;refine sM (zlU _ _ _ _ _ _ _ _ _ HG.out) ?_));go_ret;exact⟨rfl,rfl⟩
theorem ziM (s:ByteArray) (pos:Nat) (h:pos<s.size):1<=(Utf8.decode s pos).2:=by
 by_cases ha:(s[pos]'h).toNat<128
 ·rw[decode_ascii s pos h ha];exact Nat.le_refl _
 ·exact(decode_high s pos h (by omega)).2
theorem zkA (s:ByteArray) (pos:Nat):(Utf8.decode s pos).2<=4:=by
 simp only[Utf8.decode]
 repeat' split
 all_goals simp_all
theorem ztE (r:Int):wd r=0\/wd r=1\/wd r=2:=by
 unfold wd;repeat' split
 all_goals simp
theorem zgC (s:ByteArray) (f:Nat) {pos:Nat} (h:pos<s.size):Zh s (f+1) pos=(if wd ((Utf8.decode s pos).1:Int)=0 then 65533 else((Utf8.decode s pos).1:Int))::Zh s f (pos+(Utf8.decode s pos).2):=by
 show(if pos<s.size then _ else _)=_;rw[if_pos h]
theorem ziN (s:ByteArray):∀(f pos:Nat),∀r∈Zh s f pos,wd r=1\/wd r=2:=by
 intro f;induction f with
 |zero=>intro pos r hr;simp[Zh] at hr
 |succ f ih=>
  intro pos r hr;unfold Zh at hr;split at hr
  ·rcases List.mem_cons.1 hr with e|hr
   ·split at e
    ·rw[e];exact .inl (by decide)
    ·rw[e];have:=ztE ((Utf8.decode s pos).1:Int);omega
   ·exact ih _ r hr
  ·simp at hr
theorem zd.iter {F:Nat->Prop} {a b:World} (h:zd F a b) (k:Nat) (s:ByteArray) (pos:Nat) (hk:a.heap.size<=k):zd F a (b.iterAt k s pos):=
 ⟨h.os,h.tape,h.output,by rw[iterAt_size];exact h.size,λi hi hF=>(iterAt_other b k i s pos (by omega)).trans (h.block i hi hF)⟩
theorem zt5 (v:Wn) (bn cn gn:Nat) (pp:Option Addr) (sv:Value) (ks:List Value) (x y:Int) (s:ByteArray) (p:Pn) (w:World) (h:Z9 w v bn cn gn pp sv ks) (hbg:bn≠gn) (hsg:sv.ownBlock≠some gn) (hx:-1000<=x/\x<=1000) (hs:s.size<=200):
 Calls Tryz.prog 78 #[.pointer (some ⟨bn,0,none⟩),.int .i64 x,.int .i64 y,.string s,p.agg] w λe w'=>e=.returned (.tuple #[])/\Zi w' cn gn v.W v.H (v.H*v.W) (writeAll v.W v.H y p x (Zh s s.size 0) v.G)/\zd (λi=>i=gn) w w':=by
 have HV:=zH h;have hbl:=h.lt;have hgl:=h.gr.glt;have hw1:=h.gr.w1;clear h;by_cases hy:0<=y/\y<v.H
 ·obtain⟨y,rfl⟩:=Int.eq_ofNat_of_zero_le hy.1;have hyH:y<v.H:=by omega
  have hin:inG v.W v.H 0 y=true:=zu.2 (by omega);clear hy;go_in;go_wp2_with (first|(go_at_call 132;fail));have hb1:Below w.heap.size w (w.alloc (.cells #[.int .i64 p.f,.int .i64 p.b,.bool p.bo,.bool p.un,.bool p.re] 33)):=(Below.refl _ _).alloc (Nat.le_refl _) _;have P1:=ZO w p 33;have s1:(w.alloc (.cells #[.int .i64 p.f,.int .i64 p.b,.bool p.bo,.bool p.un,.bool p.re] 33)).heap.size=w.heap.size+1:=by simp
  generalize w.alloc (.cells #[.int .i64 p.f,.int .i64 p.b,.bool p.bo,.bool p.un,.bool p.re] 33)=wa at *;have Hs1:=zH s1;clear s1;have HVa:=zH<|HV.out.same (hb1.block _ hbl) (hb1.block _ HV.out.gr.lt) (hb1.block _ hgl) (λi hi=>hb1.block _ (Zw HV.out.row hi).1)
  go_wp2_with (first|(go_at_call 132;refine sM (ztD v bn cn gn pp sv ks _ _ HVa.out) ?_));have hbi:Below wa.heap.size wa (wa.iter s 0):=(Below.refl _ _).alloc (Nat.le_refl _) _;have hit0:(wa.iter s 0).heap[wa.heap.size]?=some (.stringIter s 0):=zf wa _;go_loopw[1] (λsx wr=>∃(pos f:Nat) (xx:Int) (G:Nat->Nat->zk),sx=.int .i64 xx/\wr.heap[wa.heap.size]?=some (.stringIter s pos)/\Zf wr w.heap.size 0 p/\Z9 wr {v with G:=G} bn cn gn pp sv ks/\ZX v.W v.H (writeAll v.W v.H y p xx (Zh s f pos) G) (writeAll v.W v.H y p x (Zh s s.size 0) v.G)/\s.size<=pos+f/\pos<=s.size+8/\-1000<=xx/\xx<=1000+2*pos/\zd (λi=>i=gn) w wr) (λ_ wr=>s.size-wr.iterPos wa.heap.size)
  case atStart=>exact⟨0,s.size,x,v.G,rfl,hit0,P1.same (hbi.block _ (by have:=Hs1.out;omega)),HVa.out.same (hbi.block _ HVa.out.lt) (hbi.block _ HVa.out.gr.lt) (hbi.block _ HVa.out.gr.glt) (λi hi=>hbi.block _ (Zw HVa.out.row hi).1),λ_ _ _ _=>rfl,by omega,by omega,by omega,by omega,(zd.below _ hb1).thenBelow hbi⟩
  case round=>
   obtain⟨pos,f,xx,G,rfl,hI,hP,hV,hE,hf,hp8,hx1,hx2,hK⟩:=hrel;have HVr:=zH hV;have HKr:=zH hK;have HEr:=zH hE;have hpo:=iterPos_of hI;by_cases hlt:pos<s.size
   ·have hnx:∀ty,(Instr.next (.pointer (some ⟨wa.heap.size,0,none⟩)) true ty).run Tryz.prog wr=_:=λty=>run_next_any_at wr wa.heap.size s pos ty hI hlt;have hwd:=ziM s pos hlt;obtain⟨f,rfl⟩:∃f',f=f'+1:=⟨f-1,by omega⟩;have hdl:=decode_le s pos;have hd4:=zkA s pos;have HEr2:Hid (ZX v.W v.H (writeAll v.W v.H y p xx ((if wd ((Utf8.decode s pos).1:Int)=0 then 65533 else((Utf8.decode s pos).1:Int))::Zh s f (pos+(Utf8.decode s pos).2)) G) (writeAll v.W v.H y p x (Zh s s.size 0) v.G)):=by
     have:=HEr.out;rw[zgC s f hlt] at this;exact this
    have HI:=zH hI;clear hV hK hE HEr hI;generalize hd1:(Utf8.decode s pos).1=d1 at *;generalize hd2:(Utf8.decode s pos).2=d2 at *;clear hd1 hd2;have hIt:=iterAt_heap wr wa.heap.size s pos (pos+d2) HI.out;have hOt:∀i,i<wa.heap.size->(wr.iterAt wa.heap.size s (pos+d2)).heap[i]?=wr.heap[i]?:=λi hi=>iterAt_other wr wa.heap.size i s (pos+d2) (by omega);have Pn1:=hP.same (hOt _ (by have:=Hs1.out;omega));have HVn:=zH<|HVr.out.same (hOt _ (by have:=Hs1.out;omega)) (hOt _ (by have:=Hs1.out;have:=HV.out.gr.lt;omega)) (hOt _ (by have:=Hs1.out;omega)) (λi hi=>hOt _ (by have:=Hs1.out;have:=(Zw HV.out.row hi).1;omega))
    have HKn:Hid (zd (λi=>i=gn) w (wr.iterAt wa.heap.size s (pos+d2))):=HKr.out.iter _ _ _ (by have:=Hs1.out;omega);generalize wr.iterAt wa.heap.size s (pos+d2)=wn at *;clear hP HVr HKr HI hOt;have step:∀(r:Int),r=(if wd (d1:Int)=0 then 65533 else(d1:Int))->(wd r=1\/wd r=2)->Hid (Calls Tryz.prog 133 #[.pointer (some ⟨bn,0,none⟩),.int .i64 xx,.int .i64 y,.int .i32 r,.int .i64 (wd r),p.agg] wn λe w'=>e=.returned (.tuple #[])/\w'.heap[wa.heap.size]?=some (.stringIter s (pos+d2))/\Zf w' w.heap.size 0 p/\Z9 w' {v with G:=zR v.W v.H G xx y r p} bn cn gn pp sv ks/\ZX v.W v.H (writeAll v.W v.H y p (xx+wd r) (Zh s f (pos+d2)) (zR v.W v.H G xx y r p)) (writeAll v.W v.H y p x (Zh s s.size 0) v.G)/\zd (λi=>i=gn) w w'):=by
     intro r hr hr12;refine(zwE {v with G:=G} bn cn gn pp sv ks xx y r p wn HVn.out hyH hr12 (by omega)).mono ?_;rintro e w' ⟨rfl,G2,K2⟩;have hs1:=Hs1.out;have hln:=(Array.getElem?_eq_some_iff.1 hIt).1;refine⟨rfl,(K2.block _ hln (by omega)).trans hIt,Pn1.same (K2.block _ (by omega) (by omega)),?_,?_,HKn.out.trans K2 (λ_ _ h=>h)⟩
     ·exact⟨(K2.block _ HVn.out.lt hbg).trans HVn.out.blk,G2,HVn.out.wf.write _ _ _ _ hr12,zx HVn.out.row (λi hi=>K2.block _ (Zw HVn.out.row hi).1 (λe=>hsg (by rw[←e];exact hi)))⟩
     ·have:=HEr2.out;rw[←hr] at this;exact this
    have fin:∀(r:Int) (w':World),(wd r=1\/wd r=2)->w'.heap[wa.heap.size]?=some (.stringIter s (pos+d2))->Zf w' w.heap.size 0 p->Z9 w' {v with G:=zR v.W v.H G xx y r p} bn cn gn pp sv ks->ZX v.W v.H (writeAll v.W v.H y p (xx+wd r) (Zh s f (pos+d2)) (zR v.W v.H G xx y r p)) (writeAll v.W v.H y p x (Zh s s.size 0) v.G)->zd (λi=>i=gn) w w' →
     Hid ((∃(pos f:Nat) (xx':Int) (G:Nat->Nat->zk),Value.int .i64 (xx+wd r)=.int .i64 xx'/\w'.heap[wa.heap.size]?=some (.stringIter s pos)/\Zf w' w.heap.size 0 p/\Z9 w' {v with G:=G} bn cn gn pp sv ks/\ZX v.W v.H (writeAll v.W v.H y p xx' (Zh s f pos) G) (writeAll v.W v.H y p x (Zh s s.size 0) v.G)/\s.size<=pos+f/\pos<=s.size+8/\-1000<=xx'/\xx'<=1000+2*pos/\zd (λi=>i=gn) w w')/\s.size-w'.iterPos wa.heap.size<s.size-wr.iterPos wa.heap.size):=by
     intro r w' hr12 h1 h2 h3 h4 h5;refine⟨⟨pos+d2,f,xx+wd r,_,rfl,h1,h2,h3,h4,by omega,by omega,by omega,by omega,h5⟩,?_⟩;rw[iterPos_of h1,hpo];omega
    by_cases hz:wd (d1:Int)=0
    ·have h65:wd 65533=1:=by decide
     have st:=step 65533 (by rw[if_pos hz]) (by omega);have fi:=fin 65533;rw[h65] at st fi;clear step fin;have Hfi:Hid _:=fi;clear fi HEr2;go_wp2_with fail;go_at_call 129;refine sM (Wd.lettersWidth _ _) ?_;obtain⟨p0,p1,p2,p3,p4⟩:=Pn1;go_wp2_with fail;go_at_call 133;refine st.out.mono ?_;rintro e w3 ⟨rfl,q1,q2,q3,q4,q5⟩;have Hend:=Hfi.out w3 (.inl trivial) q1 q2 q3 q4 q5;clear Hfi st q1 q2 q3 q4 q5;go_wp2_with fail;exact Hend.out
    ·have hr12:wd (d1:Int)=1\/wd (d1:Int)=2:=by have:=ztE (d1:Int);omega
     have st:=step (d1:Int) (by rw[if_neg hz]) hr12;have fi:=fin (d1:Int);have Hr12:=zH hr12;clear step fin;obtain⟨sz,hsz⟩:∃sz,wd (d1:Int)=sz:=⟨_,rfl⟩;have Hsz:=zH hsz;rw[hsz] at st fi hz hr12;clear hsz;have Hfi:Hid _:=fi;clear fi HEr2;go_wp2_with fail;go_at_call 129;refine(Wd.lettersWidth _ _).mono ?_;rw[Hsz.out];rintro e w2 ⟨rfl,hw2⟩;replace hw2:=hw2.symm;subst hw2;obtain⟨p0,p1,p2,p3,p4⟩:=Pn1;go_wp2_with fail;go_at_call 133;refine st.out.mono ?_;rintro e w3 ⟨rfl,q1,q2,q3,q4,q5⟩;have Hend:=Hfi.out w3 (by omega) q1 q2 q3 q4 q5;clear Hfi st q1 q2 q3 q4 q5;go_wp2_with fail;exact Hend.out
   ·have hnx:∀ty,(Instr.next (.pointer (some ⟨wa.heap.size,0,none⟩)) true ty).run Tryz.prog wr=_:=λty=>run_next_end_at wr wa.heap.size s pos ty hI hlt;have hrn:Hid (Zh s f pos=[]):=by
     show Zh s f pos=[];cases f with
     |zero=>rfl
     |succ f=>simp[Zh,hlt]
    clear hV hK hE;go_wp2_with fail;go_end0;refine⟨rfl,HVr.out.gr.congr ?_,HKr.out⟩;have:=HEr.out;rw[hrn.out] at this;exact this
 ·have hin:inG v.W v.H 0 y=false:=zky hy;rw[zjH hy];go_in;go_wp2_with (first|(go_at_call 132;fail));have hb1:Below w.heap.size w (w.alloc (.cells #[.int .i64 p.f,.int .i64 p.b,.bool p.bo,.bool p.un,.bool p.re] 33)):=(Below.refl _ _).alloc (Nat.le_refl _) _;generalize w.alloc (.cells #[.int .i64 p.f,.int .i64 p.b,.bool p.bo,.bool p.un,.bool p.re] 33)=wa at *;have HVa:=zH<|HV.out.same (hb1.block _ hbl) (hb1.block _ HV.out.gr.lt) (hb1.block _ hgl) (λi hi=>hb1.block _ (Zw HV.out.row hi).1)
  go_wp2_with (first|(go_at_call 132;refine sM (ztD v bn cn gn pp sv ks _ _ HVa.out) ?_));refine bodyPost_ret (results_none rfl _ _ _) rfl ⟨rfl,HVa.out.gr,zd.below _ hb1⟩
end
section
open Go.RowKit
open Wd (wd)
attribute [local go_sem ↓] Go.wp_at_zero Go.wp_at_succ
def zY (L:List Wn) (n:Int) (f:Wn->Wn):List Wn:=L.map (λu=>if u.n=n then f u else u)
section
variable {L:List Wn} {n:Int} {f:Wn->Wn}
theorem zeV (hn:∀u∈L,u.n=n->(f u).n=n):(zY L n f).map Wn.n=L.map Wn.n:=by
 unfold zY;rw[List.map_map];refine List.map_congr_left λu hu=>?_;simp only[Function.comp];split
 ·rename_i e;rw[hn u hu e,e]
 ·rfl
theorem ziO (hp:∀u∈L,u.n=n->(f u).par=u.par) (m:Int):zy (zY L n f) m=(zy L m).map (λu=>if u.n=n then f u else u):=by
 induction L with
 |nil=>rfl
 |cons a t ih=>
  have ih':=ih (λu hu=>hp u (List.mem_cons_of_mem _ hu));have ha:(if a.n=n then f a else a).par=a.par:=by
   split
   ·exact hp a List.mem_cons_self ‹_›
   ·rfl
  unfold zy zY at ih' ⊢;rw[List.map_cons];by_cases hc:a.par=m
  ·rw[List.filter_cons_of_pos (by simpa[ha] using hc),List.filter_cons_of_pos (by simpa using hc),List.map_cons,ih']
  ·rw[List.filter_cons_of_neg (by simpa[ha] using hc),List.filter_cons_of_neg (by simpa using hc),ih']
theorem zfE {v:Wn} (hv:v∈L) (hv':v.n=n) (u:Wn) (hu:u∈zY L n f) (nd:(L.map Wn.n).Nodup):u=f v\/(u∈L/\u.n≠n):=by
 obtain⟨a,ha,e⟩:=List.mem_map.1 hu;split at e
 ·rename_i h1;obtain rfl:=zak nd ha hv (h1.trans hv'.symm);exact .inl e.symm
 ·rename_i h1;exact .inr (e ▸ ⟨ha,h1⟩)
theorem zdi {last:Int} (ok:ZK L last) (hn:∀u∈L,u.n=n->(f u).n=n) (hp:∀u∈L,u.n=n->(f u).par=u.par) (hx:∀u∈L,u.n=n->-1000<=(f u).x/\(f u).x<=1000/\-1000<=(f u).y/\(f u).y<=1000):ZK (zY L n f) last:=by
 obtain⟨rk,K,T⟩:=ok.tree;have hin:∀u∈zY L n f,∃a∈L,u.n=a.n/\u.par=a.par/\(u=a\/(a.n=n/\u=f a)):=by
  intro u hu;obtain⟨a,ha,e⟩:=List.mem_map.1 hu;split at e
  ·rename_i h1;exact⟨a,ha,by rw[←e,hn a ha h1,h1],by rw[←e,hp a ha h1],.inr ⟨h1,e.symm⟩⟩
  ·exact⟨a,ha,by rw[e],by rw[e],.inl e.symm⟩
 have hout:∀a∈L,∃u∈zY L n f,u.n=a.n:=by
  intro a ha;refine⟨_,List.mem_map.2 ⟨a,ha,rfl⟩,?_⟩;split
  ·rename_i h1;rw[hn a ha h1,h1]
  ·rfl
 refine⟨⟨rk,K,?_,?_,?_,?_⟩,?_,?_,?_⟩
 ·obtain⟨r,t,rfl,h0,h1,h2⟩:=T.head;refine⟨if r.n=n then f r else r,zY t n f,rfl,?_,?_,?_⟩
  ·split
   ·rename_i e;rw[hn r List.mem_cons_self e,←e];exact h0
   ·exact h0
  ·split
   ·rename_i e;rw[hp r List.mem_cons_self e];exact h1
   ·exact h1
  ·intro u hu;obtain⟨a,ha,e⟩:=List.mem_map.1 hu;have:=h2 a ha;split at e
   ·rename_i h1;rw[←e,hn a (List.mem_cons_of_mem _ ha) h1,hp a (List.mem_cons_of_mem _ ha) h1];omega
   ·rw[←e];exact this
 ·rw[zeV hn];exact T.nd
 ·intro u hu hpos;obtain⟨a,ha,e1,e2,_⟩:=hin u hu;rw[e2] at hpos ⊢;rw[e1];obtain⟨⟨b,hb,hbn⟩,hr⟩:=T.up a ha hpos;obtain⟨c,hc,hcn⟩:=hout b hb;exact⟨⟨c,hc,hcn.trans hbn⟩,hr⟩
 ·intro u hu;obtain⟨a,ha,e1,_⟩:=hin u hu;rw[e1];exact T.le a ha
 ·intro u hu;obtain⟨a,ha,e1,_⟩:=hin u hu;rw[e1];exact ok.le a ha
 ·unfold zY;rw[List.length_map];exact ok.len
 ·intro u hu;obtain⟨a,ha,_,_,rfl|⟨h1,rfl⟩⟩:=hin u hu
  ·exact ok.pl _ ha
  ·exact hx a ha h1
end
theorem zI.upd {w w':World} {M:Mm} {L:List Wn} {last:Int} {N:Nat} {s:Rs} {t:Pt} (h:zI w M L last N s t) (ok:ZK L last) {v:Wn} (hv:v∈L) (f:Wn->Wn) (hfn:(f v).n=v.n) (hfp:(f v).par=v.par)
 (hk:∀i,M.own L i->i≠M.b v.n->i≠M.c v.n->i≠M.g v.n->w'.heap[i]?=w.heap[i]?)
 (hw:Z9 w' (f v) (M.b v.n) (M.c v.n) (M.g v.n) (M.pp v.par) (M.s v.n) (M.ptrs (zy L v.n))):zI w' M (zY L v.n f) last N s t/\(∀i,M.own (zY L v.n f) i↔M.own L i):=by
 obtain⟨rk,K,T⟩:=ok.tree;have hnn:∀u∈L,u.n=v.n->(f u).n=v.n:=λu hu e=>by obtain rfl:=zak T.nd hu hv e;exact hfn
 have hpp:∀u∈L,u.n=v.n->(f u).par=u.par:=λu hu e=>by obtain rfl:=zak T.nd hu hv e;exact hfp
 have hokP:∀p:Pl,p.ok (zY L v.n f)↔p.ok L:=by
  intro p;cases p with
  |top k=>exact Iff.rfl
  |win m k=>
   have e:=zeV hnn;have h1:(∃u∈zY L v.n f,u.n=m)↔m∈(zY L v.n f).map Wn.n:=by simp
   have h2:(∃u∈L,u.n=m)↔m∈L.map Wn.n:=by simp
   show _/\_↔_/\_;rw[h1,h2,e]
 have hown:∀i,M.own (zY L v.n f) i↔M.own L i:=λi=>⟨λ⟨p,a,b⟩=>⟨p,(hokP p).1 a,b⟩,λ⟨p,a,b⟩=>⟨p,(hokP p).2 a,b⟩⟩;have hptr:∀m,M.ptrs (zy (zY L v.n f) m)=M.ptrs (zy L m):=by
  intro m;rw[ziO hpp];unfold Mm.ptrs;rw[List.map_map];refine List.map_congr_left λu hu=>?_;simp only[Function.comp];split
  ·rename_i e;rw[hnn u (Ze.1 hu).1 e,e]
  ·rfl
 have nt:=λk hk5=>hk _ (Zg M L k hk5)
  (h.ne (p:=.top k) (q:=.win v.n 0) hk5 ⟨by omega,v,hv,rfl⟩ rfl rfl (by simp)) (h.ne (p:=.top k) (q:=.win v.n 1) hk5 ⟨by omega,v,hv,rfl⟩ rfl rfl (by simp)) (h.ne (p:=.top k) (q:=.win v.n 2) hk5 ⟨by omega,v,hv,rfl⟩ rfl rfl (by simp))
 refine⟨⟨(nt 0 (by omega)).trans h.b0,(nt 1 (by omega)).trans h.b1,h.scr.same (nt 2 (by omega)) (nt 3 (by omega)) (nt 4 (by omega)),?_,λp q i hp hq=>h.inj p q i ((hokP p).1 hp) ((hokP q).1 hq),λi hi=>h.two i ((hown i).1 hi)⟩,hown⟩;intro u hu;rcases zfE hv rfl u hu T.nd with rfl|⟨huL,hne⟩
 ·rw[hfn,hfp,hptr];exact hw
 ·rw[hptr];have kk:=λk i hk4 hb=>
   hk i ⟨.win u.n k,⟨hk4,u,huL,rfl⟩,hb⟩ (h.ne (p:=.win u.n k) (q:=.win v.n 0) ⟨hk4,u,huL,rfl⟩ ⟨by omega,v,hv,rfl⟩ hb rfl (by simp[hne])) (h.ne (p:=.win u.n k) (q:=.win v.n 1) ⟨hk4,u,huL,rfl⟩ ⟨by omega,v,hv,rfl⟩ hb rfl (by simp[hne])) (h.ne (p:=.win u.n k) (q:=.win v.n 2) ⟨hk4,u,huL,rfl⟩ ⟨by omega,v,hv,rfl⟩ hb rfl (by simp[hne]))
  exact(h.win u huL).same (kk 0 _ (by omega) rfl) (kk 1 _ (by omega) rfl) (kk 2 _ (by omega) rfl) (λi hi=>kk 3 i (by omega) hi)
def zad (M:Mm) (L L':List Wn) (last':Int) (N:Nat) (s:Rs) (t:Pt) (w:World) (r:Value) (e:Ending) (w':World):Prop:=
 ∃M',e=.returned r/\zI w' M' L' last' N s t/\M'.t=M.t/\zd (M.own L) w w'/\∀i,M'.own L' i->M.own L i\/w.heap.size<=i
section
variable {M:Mm} {L:List Wn} {last:Int} {N:Nat} {s:Rs} {t:Pt}
theorem zI.ne_bg {w:World} (h:zI w M L last N s t) {v:Wn} (hv:v∈L):M.b v.n≠M.g v.n:=h.ne (p:=.win v.n 0) (q:=.win v.n 2) ⟨by omega,v,hv,rfl⟩ ⟨by omega,v,hv,rfl⟩ rfl rfl (by simp)
theorem zI.ne_bc {w:World} (h:zI w M L last N s t) {v:Wn} (hv:v∈L):M.b v.n≠M.c v.n:=h.ne (p:=.win v.n 0) (q:=.win v.n 1) ⟨by omega,v,hv,rfl⟩ ⟨by omega,v,hv,rfl⟩ rfl rfl (by simp)
theorem zI.ne_sg {w:World} (h:zI w M L last N s t) {v:Wn} (hv:v∈L):(M.s v.n).ownBlock≠some (M.g v.n):=λe=>by
 have:=h.inj (.win v.n 3) (.win v.n 2) _ ⟨by omega,v,hv,rfl⟩ ⟨by omega,v,hv,rfl⟩ e rfl;simp at this
theorem zI.ne_sb {w:World} (h:zI w M L last N s t) {v:Wn} (hv:v∈L):(M.s v.n).ownBlock≠some (M.b v.n):=λe=>by
 have:=h.inj (.win v.n 3) (.win v.n 0) _ ⟨by omega,v,hv,rfl⟩ ⟨by omega,v,hv,rfl⟩ e rfl;simp at this
theorem zI.setB {w w':World} (h:zI w M L last N s t) (ok:ZK L last) {v:Wn} (hv:v∈L) (f:Wn->Wn) (hfn:(f v).n=v.n) (hfp:(f v).par=v.par) (hG:(f v).W=v.W/\(f v).H=v.H/\(f v).G=v.G)
 (hb:w'.heap[M.b v.n]?=some (.cells (Z8 (f v) (M.pp v.par) (M.c v.n) (M.s v.n)) 131)) (hk:zd (λi=>i=M.b v.n) w w') (r:Value):zad M L (zY L v.n f) last N s t w r (.returned r) w':=by
 have hV:=h.win v hv;have hw:Z9 w' (f v) (M.b v.n) (M.c v.n) (M.g v.n) (M.pp v.par) (M.s v.n) (M.ptrs (zy L v.n)):=by
  refine⟨hb,?_,?_,zx hV.row (λi hi=>hk.block i (Zw hV.row hi).1 (λe=>h.ne_sb hv (by rw[hi,e])))⟩
  ·rw[hG.1,hG.2.1,hG.2.2];exact hV.gr.same (hk.block _ hV.gr.lt (λe=>h.ne_bc hv e.symm)) (hk.block _ hV.gr.glt (λe=>h.ne_bg hv e.symm))
  ·rw[hG.1,hG.2.1,hG.2.2];exact hV.wf
 obtain⟨D,O⟩:=h.upd ok hv f hfn hfp (λi hi n1 _ _=>hk.block i (h.lt hi) n1) hw;exact⟨M,rfl,D,rfl,hk.mono (λi e=>e ▸ zgA M hv),λi hi=>.inl ((O i).1 hi)⟩
theorem zI.setG {w w':World} (h:zI w M L last N s t) (ok:ZK L last) {v:Wn} (hv:v∈L) (G:Nat->Nat->zk) (hwf:Wf v.W v.H G)
 (hg:Zi w' (M.c v.n) (M.g v.n) v.W v.H (v.H*v.W) G) (hk:zd (λi=>i=M.g v.n) w w') (r:Value):zad M L (zY L v.n (λu=>{u with G:=G})) last N s t w r (.returned r) w':=by
 have hV:=h.win v hv;have hw:Z9 w' {v with G:=G} (M.b v.n) (M.c v.n) (M.g v.n) (M.pp v.par) (M.s v.n) (M.ptrs (zy L v.n)):=
  ⟨(hk.block _ hV.lt (h.ne_bg hv)).trans hV.blk,hg,hwf,zx hV.row (λi hi=>hk.block i (Zw hV.row hi).1 (λe=>h.ne_sg hv (by rw[hi,e])))⟩
 obtain⟨D,O⟩:=h.upd ok hv (λu=>{u with G:=G}) rfl rfl (λi hi _ _ n3=>hk.block i (h.lt hi) n3) hw;exact⟨M,rfl,D,rfl,hk.mono (λi e=>e ▸ znd M hv),λi hi=>.inl ((O i).1 hi)⟩
end
def zdA (p:Pn):Bool:=Wd.inB p.f 0 8&&Wd.inB p.b 0 8
theorem zpK {p:Pn}:zdA p=true↔0<=p.f/\p.f<=8/\0<=p.b/\p.b<=8:=by simp[zdA,Wd.inB,and_assoc]
theorem zr6 (p:Pn) (w:World):
 Calls Tryz.prog 77 #[p.agg] w λe w'=>e=.returned (.bool (zdA p))/\Below w.heap.size w w':=by
 cases h1:Wd.inB p.f 0 8<;>cases h2:Wd.inB p.b 0 8;all_goals
  go_in;go_wp2_with (first|(go_at_call 107;refine sM (zan _ _ _ _) ?_));go_ret;exact⟨by simp[zdA,h1,h2],(Below.refl _ _).alloc (Nat.le_refl _) _⟩
section
variable {M:Mm} {L:List Wn} {last:Int} {N:Nat} {s:Rs} {t:Pt}
theorem znh (v:Wn) (bn cn gn:Nat) (pp:Option Addr) (sv:Value) (ks:List Value) (w:World) (h:Z9 w v bn cn gn pp sv ks):
 Calls Tryz.prog 151 #[.pointer (some ⟨bn,0,none⟩)] w λe w'=>e=.returned (.bool pp.isNone)/\w'=w:=by
 have f1:=h.f1;clear h;go_in;go_wp2_with fail;go_ret;exact⟨rfl,rfl⟩
theorem zdY (ok:ZK L last) (w:World) (h:zI w M L last N s t) (v:Wn) (hv:v∈L) (hp:v.par≠-1):
 Calls Tryz.prog 111 #[.pointer (some ⟨M.t 0,0,none⟩),.int .i64 v.n] w λe w'=>e=.returned (.tuple #[M.ptr v.n,.int .i64 0])/\w'=w:=by
 have HD:=zH h;have hf:=M.fnd_in hv;have hpp:(M.pp v.par).isNone=false:=by simp[Mm.pp,hp]
 clear h;go_in;go_wp2_with (first|(go_at_call 75;refine sM (zbj ok _ HD.out _) ?_)|(go_at_call 151;refine sM (znh v _ _ _ _ _ _ _ (HD.out.win v hv)) ?_));go_ret2;exact⟨rfl,rfl⟩
theorem zvy (v:Wn) (bn cn gn:Nat) (pp:Option Addr) (sv:Value) (ks:List Value) (b:Bool) (w:World) (h:Z9 w v bn cn gn pp sv ks):
 Calls Tryz.prog 116 #[.pointer (some ⟨bn,0,none⟩),.bool b] w λe w'=>e=.returned (.tuple #[])/\w'.heap[bn]?=some (.cells (Z8 {v with sh:=b} pp cn sv) 131)/\zd (λi=>i=bn) w w':=by
 have f4:=h.f4;have fz:=h.free;have HV:=zH h;clear h;go_in;go_wp2_with fail;go_end0;exact⟨rfl,zbf HV.out.blk _,(zd.refl _ _).setCell _ _ (λ_=>rfl)⟩
theorem zvz (ok:ZK L last) (w:World) (h:zI w M L last N s t) (v:Wn) (hv:v∈L) (hp:v.par≠-1) (b:Bool):
 Calls Tryz.prog 53 #[.pointer (some ⟨M.t 0,0,none⟩),.int .i64 v.n,.bool b] w (zad M L (zY L v.n (λu=>{u with sh:=b})) last N s t w (.int .i64 0)):=by
 have HD:=zH h;clear h;go_in;go_wp2_with (first|(go_at_call 111;refine sM (zdY ok _ HD.out v hv hp) ?_));go_at_call 116;refine(zvy v _ _ _ _ _ _ b _ (HD.out.win v hv)).mono ?_;rintro e wa ⟨rfl,hb,hk⟩;have HP:Hid (zad M L (zY L v.n (λu=>{u with sh:=b})) last N s t w (.int .i64 0) (.returned (.int .i64 0)) wa):=HD.out.setB ok hv _ rfl rfl ⟨rfl,rfl,rfl⟩ hb hk _;clear hb hk HD;go_wp2_with fail;go_ret;exact HP.out
theorem zvA (v:Wn) (bn cn gn:Nat) (pp:Option Addr) (sv:Value) (ks:List Value) (x y:Int) (w:World) (h:Z9 w v bn cn gn pp sv ks):
 Calls Tryz.prog 113 #[.pointer (some ⟨bn,0,none⟩),.int .i64 x,.int .i64 y] w λe w'=>e=.returned (.tuple #[])/\w'.heap[bn]?=some (.cells (Z8 {v with x:=x,y:=y} pp cn sv) 131)/\zd (λi=>i=bn) w w':=by
 have f2:=h.f2;have f3:=h.f3;have fz:=h.free;have HV:=zH h;clear h;go_in;go_wp2_with fail;go_end0;exact⟨rfl,zbf (zbf HV.out.blk _) _,((zd.refl (λi=>i=bn) w).setCell ⟨bn,2,none⟩ _ (λ_=>rfl)).setCell ⟨bn,3,none⟩ _ (λ_=>rfl)⟩
theorem ztF (ok:ZK L last) (w:World) (h:zI w M L last N s t) (v:Wn) (hv:v∈L) (hp:v.par≠-1) (x y:Int) (hpl:Zt x y=true):
 Calls Tryz.prog 50 #[.pointer (some ⟨M.t 0,0,none⟩),.int .i64 v.n,.int .i64 x,.int .i64 y] w (zad M L (zY L v.n (λu=>{u with x:=x,y:=y})) last N s t w (.int .i64 0)):=by
 have HD:=zH h;clear h;go_in;go_wp2_with (first|(go_at_call 111;refine sM (zdY ok _ HD.out v hv hp) ?_)|(go_at_call 76;refine sM (zbX _ _ _) ?_));go_at_call 113;refine(zvA v _ _ _ _ _ _ x y _ (HD.out.win v hv)).mono ?_;rintro e wa ⟨rfl,hb,hk⟩;have HP:Hid (zad M L (zY L v.n (λu=>{u with x:=x,y:=y})) last N s t w (.int .i64 0) (.returned (.int .i64 0)) wa):=HD.out.setB ok hv _ rfl rfl ⟨rfl,rfl,rfl⟩ hb hk _;clear hb hk HD;go_wp2_with fail;go_ret;exact HP.out
theorem zt6 (ok:ZK L last) (w:World) (h:zI w M L last N s t) (v:Wn) (hv:v∈L) (x y:Int) (hpl:Zt x y=true) (b:ByteArray) (hb:b.size<=200) (p:Pn) (hpn:zdA p=true):
 Calls Tryz.prog 31 #[.pointer (some ⟨M.t 0,0,none⟩),.int .i64 v.n,.int .i64 x,.int .i64 y,.string b,p.agg] w (zad M L (zY L v.n (λu=>{u with G:=writeAll v.W v.H y p x (Zh b b.size 0) v.G})) last N s t w (.int .i64 0)):=by
 have HD:=zH h;have hf:=M.fnd_in hv;have hx:=zbH.1 hpl;have hb':¬(200:Int)<(b.size:Int):=by omega
 clear h;go_in;go_wp2_with (first|(go_at_call 75;fail));have hb1:Below w.heap.size w (w.alloc (.cells #[.int .i64 p.f,.int .i64 p.b,.bool p.bo,.bool p.un,.bool p.re] 33)):=(Below.refl _ _).alloc (Nat.le_refl _) _;have P1:=ZO w p 33;generalize w.alloc (.cells #[.int .i64 p.f,.int .i64 p.b,.bool p.bo,.bool p.un,.bool p.re] 33)=wa at *;have HDa:=zH<|HD.out.below hb1
 have P1l:=P1.lt;obtain⟨p0,p1,p2,p3,p4⟩:=id P1;go_wp2_with (first|(go_at_call 75;refine sM (zbj ok _ HDa.out _) ?_)|(go_at_call 76;refine sM (zbX _ _ _) ?_));go_at_call 77;refine(zr6 p _).mono ?_;rintro e wb ⟨rfl,hbb⟩;have HDb:=zH<|HDa.out.below hbb
 have P2:=P1.same (hbb.block _ P1l);have K2:=zH<|hb1.trans (hbb.mono hb1.size)
 clear p0 p1 p2 p3 p4 P1 hbb HDa hb1;obtain⟨p0,p1,p2,p3,p4⟩:=P2;go_wp2_with fail;go_at_call 78;refine(zt5 v _ _ _ _ _ _ x y b p _ (HDb.out.win v hv) (HDb.out.ne_bg hv) (HDb.out.ne_sg hv) (by omega) hb).mono ?_;rintro e wc ⟨rfl,G1,K1⟩;have HP:Hid (zad M L (zY L v.n (λu=>{u with G:=writeAll v.W v.H y p x (Zh b b.size 0) v.G})) last N s t w (.int .i64 0) (.returned (.int .i64 0)) wc):=by
  obtain⟨M',e1,D1,t1,k1,o1⟩:=HDb.out.setG ok hv _ ((HDb.out.win v hv).wf.writeAll _ x (ziN b b.size 0)) G1 K1 (.int .i64 0);exact⟨M',e1,D1,t1,(zd.below _ K2.out).trans k1 (λ_ _ h=>h),λi hi=>(o1 i hi).imp id (λh=>by have:=K2.out.size;omega)⟩
 clear G1 K1 HDb K2 p0 p1 p2 p3 p4;go_wp2_with fail;go_ret;exact HP.out
end
end
end Go.Proofs.YtjlfibhbfdckpaaGreatDoor
