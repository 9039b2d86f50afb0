import Derived.Test.YtjlfibhbfdckpaaGreatDoorW31
import Derived.Deep.RegionHeldLaw
import Derived.DeepKeys4
namespace Go.Proofs.YtjlfibhbfdckpaaGreatDoor
set_option maxHeartbeats 64000000
set_option maxRecDepth 100000
section
open Go.RowKit
open Wd (wd)
attribute [local go_sem ↓] Go.wp_at_zero Go.wp_at_succ
def zj5 (w:World) (L:List Wy) (e:Ending) (w':World):Prop:=∃v,e=.returned v/\w'.ownsRow w.heap.size 237 10 v L.length (ZG L)/\Below w.heap.size w w'
theorem zq9 (r:Int):(⟨(zdd r).toArray⟩:ByteArray)=Utf8.encode r:=by unfold zdd;simp
abbrev zeO (p:Sp):Array Value:=#[.int .i64 p.x,.int .i64 p.y,.bool p.pend,.int .i64 p.pen.f,.int .i64 p.pen.b,.bool p.pen.bo,.bool p.pen.un,.bool p.pen.re]
abbrev zs1 (w:World) (D:Nat) (p:Sp):World:=((((((((w.setCell ⟨D,0,none⟩ (.int .i64 p.x)).setCell ⟨D,1,none⟩ (.int .i64 p.y)).setCell ⟨D,2,none⟩ (.bool p.pend)).setCell ⟨D,3,none⟩ (.int .i64 p.pen.f)).setCell ⟨D,4,none⟩ (.int .i64 p.pen.b)).setCell ⟨D,5,none⟩ (.bool p.pen.bo)).setCell ⟨D,6,none⟩ (.bool p.pen.un)).setCell ⟨D,7,none⟩ (.bool p.pen.re))
theorem zw1 (a0 a1 a2 a3 a4 a5 a6 a7 x0 x1 x2 x3 x4 x5 x6 x7:Value):((((((((#[a0,a1,a2,a3,a4,a5,a6,a7]:Array Value).setIfInBounds 0 x0).setIfInBounds 1 x1).setIfInBounds 2 x2).setIfInBounds 3 x3).setIfInBounds 4 x4).setIfInBounds 5 x5).setIfInBounds 6 x6).setIfInBounds 7 x7=#[x0,x1,x2,x3,x4,x5,x6,x7]:=by simp
theorem zo4 {w:World} {D:Nat} {a0 a1 a2 a3 a4 a5 a6 a7:Value} {T:TypeId} (p:Sp) (h:w.heap[D]?=some (.cells #[a0,a1,a2,a3,a4,a5,a6,a7] T)):(zs1 w D p).heap[D]?=some (.cells (zeO p) T):=by
 have h8:=zg (zg (zg (zg (zg (zg (zg (zg h 0 (.int .i64 p.x)) 1 (.int .i64 p.y)) 2 (.bool p.pend)) 3 (.int .i64 p.pen.f)) 4 (.int .i64 p.pen.b)) 5 (.bool p.pen.bo)) 6 (.bool p.pen.un)) 7 (.bool p.pen.re);rw[zw1] at h8;exact h8
theorem zgm {F:Nat->Prop} {a w:World} (h:zd F a w) (D:Nat) (p:Sp) (hF:D<a.heap.size->F D):zd F a (zs1 w D p):=
 (((((((h.setCell ⟨D,0,none⟩ _ hF).setCell ⟨D,1,none⟩ _ hF).setCell ⟨D,2,none⟩ _ hF).setCell ⟨D,3,none⟩ _ hF).setCell ⟨D,4,none⟩ _ hF).setCell ⟨D,5,none⟩ _ hF).setCell ⟨D,6,none⟩ _ hF).setCell ⟨D,7,none⟩ _ hF
theorem znD (w:World) (v:Wy) (B:Nat) (hB:B<=w.heap.size):(w.alloc (.cells #[.string ⟨v.b.toArray⟩,.int .i64 v.k,.int .i64 v.e.x,.int .i64 v.e.y,.bool v.e.pend,.int .i64 v.e.pen.f,.int .i64 v.e.pen.b,.bool v.e.pen.bo,.bool v.e.pen.un,.bool v.e.pen.re] 237)).ownsRow B 237 10 (.slice (some ⟨w.heap.size,0,none⟩) 1 1) [v].length (ZG [v]):=
 ⟨rfl,.inr ⟨w.heap.size,1,_,rfl,hB,zf _ _,Nat.le_refl _,by decide,rfl,rfl⟩⟩
theorem zlu {w wC w5 wE:World} (h:Below w.heap.size w5 wE) (h1:Below w.heap.size w wC) (h2:Below wC.heap.size wC w5):Below w.heap.size w wE:=
 (h1.trans (h2.mono h1.size)).trans h
theorem zh.keepC {wC w5 wE:World} {bs bg g N C:Nat} {s:Rs} {t:Pt} (h:zh w5 bs bg g N s t) (k:zd (λi=>i=C+1) w5 wE) (hC:zh wC bs bg g N s t) (zC:wC.heap.size=C+1):zh wE bs bg g N s t:=by
 have l1:=hC.lt;have l2:=hC.gr.lt;have l3:=hC.gr.glt;exact h.same (k.block _ h.lt (by omega)) (k.block _ h.gr.lt (by omega)) (k.block _ h.gr.glt (by omega))
theorem zuO (bs bg g N:Nat) (s:Rs) (t:Pt) (f:Sp) (w:World) (h:zh w bs bg g N s t) (ok:s.Ok) (hf:f.In s):
 Calls Tryz.prog 241 #[.pointer (some ⟨bs,0,none⟩),f.agg] w (zj5 w (zaZ s f)):=by
 have HP:=zH h;have y0:=hf.y0;have y1:f.y<=1000:=by have:=hf.y1;have:=ok.h2;omega
 obtain⟨M,hM⟩:∃M,w.heap.size=M:=⟨_,rfl⟩;have HM:=zH hM;clear h;go_in;go_wp2_with fail;have hA:∃wA,w.alloc (.cells (zeO f) 235)=wA/\wA.heap.size=M+1/\wA.heap[M]?=some (.cells (zeO f) 235)/\Below w.heap.size w wA:=by
  subst hM;exact⟨_,rfl,by simp,zf _ _,(Below.refl _ _).alloc (Nat.le_refl _) _⟩
 obtain⟨wA,hwA,zA,bA,belA⟩:=hA;rw[hwA];have HbA:=zH bA;have HbelA:=zH belA;clear hwA bA belA;go_at_call 238;refine(zhY f wA y0 y1).mono ?_;rintro e w1 ⟨rfl,hb1⟩;have HB1:=zH<|HbelA.out.trans (hb1.mono (by have:=HM.out;omega))
 have Hb1:=zH<|(hb1.block M (by omega)).trans HbA.out
 have z1:M<w1.heap.size:=by have:=hb1.size;omega
 have HP1:=zH<|HP.out.below HB1.out
 clear hb1 HbA HbelA;cases hin:inG s.W s.H f.lx f.ly with
 |false=>
  have e:zaZ s f=[]:=by unfold zaZ;rw[if_neg (by rw[hin];decide)]
  go_wp2_with (go_at_call 121;refine sM (zlt bs bg g N s t _ _ _ HP1.out) ?_);go_ret;refine⟨.slice none 0 0,rfl,?_,HB1.out⟩;rw[e];exact World.ownsRow_nil _ _ _ _
 |true=>
  obtain⟨a0,a1,b0,b1⟩:=zu.1 hin;have HCell:Hid (Calls Tryz.prog 122 #[.pointer (some ⟨bs,0,none⟩),.int .i64 f.lx,.int .i64 f.ly] w1 λe w'=>e=.returned (s.G f.lx.toNat f.ly.toNat).agg/\Below w1.heap.size w1 w'):=by
   have:=znC bs bg g N s t f.lx.toNat f.ly.toNat w1 HP1.out (by omega) (by omega);rw[Int.toNat_of_nonneg a0,Int.toNat_of_nonneg b0] at this;exact this
  have hag:zaZ s f=if (s.G f.lx.toNat f.ly.toNat).p=2\/(s.G f.lx.toNat f.ly.toNat).n.eqB f.pen=false then[] else[⟨zdd (s.G f.lx.toNat f.ly.toNat).r,0,zcH s f f.lx f.ly (wd (s.G f.lx.toNat f.ly.toNat).r)⟩]:=by unfold zaZ;rw[if_pos hin]
  have HAG:Hid _:=hag;clear hag;go_wp2_with (go_at_call 121;refine sM (zlt bs bg g N s t _ _ _ HP1.out) ?_);go_at_call 122;refine HCell.out.mono ?_;rintro e w2 ⟨rfl,hb2⟩;have HB2:=zH<|HB1.out.trans (hb2.mono (HB1.out.size))
  have Hb2:=zH<|(hb2.block M z1).trans Hb1.out
  have z2:=Nat.lt_of_lt_of_le z1 hb2.size;have HP2:=zH<|HP1.out.below hb2
  clear hb2 HCell HB1 Hb1 HP1;generalize s.G f.lx.toNat f.ly.toNat=c at *;obtain⟨C,hC⟩:∃C,w2.heap.size=C:=⟨_,rfl⟩;have hA2:∃wC,w2.alloc (.cells #[.int .i32 c.r,.int .i64 c.p,.int .i64 c.n.f,.int .i64 c.n.b,.bool c.n.bo,.bool c.n.un,.bool c.n.re] 38)=wC/\wC.heap.size=C+1/\wC.heap[M]?=some (.cells (zeO f) 235)/\wC.heap[C]?=some (.cells #[.int .i32 c.r,.int .i64 c.p,.int .i64 c.n.f,.int .i64 c.n.b,.bool c.n.bo,.bool c.n.un,.bool c.n.re] 38)/\Below w.heap.size w wC/\zh wC bs bg g N s t:=by
   refine⟨_,rfl,by simp[hC],?_,?_,HB2.out.alloc HB2.out.size _,HP2.out.below ((Below.refl _ _).alloc (Nat.le_refl _) _)⟩
   ·rw[zN _ _ z2];exact Hb2.out
   ·rw[←hC];exact zf _ _
  obtain⟨wC,hwC,zC,bM,bC,belC,PC⟩:=hA2;have HBC:=zH belC;have HPC:=zH PC;have HbM:=zH bM;have HbC:=zH bC;have m0:=za bM 0;have m1:=za bM 1;have m2:=za bM 2;have m3:=za bM 3;have m4:=za bM 4;have m5:=za bM 5;have m6:=za bM 6;have m7:=za bM 7;have k0:=za bC 0;have k1:=za bC 1;have k2:=za bC 2;have k3:=za bC 3;have k4:=za bC 4;have k5:=za bC 5;have k6:=za bC 6;simp only[List.getElem?_toArray,List.getElem?_cons_zero,List.getElem?_cons_succ] at m0 m1 m2 m3 m4 m5 m6 m7 k0 k1 k2 k3 k4 k5 k6;have hpe:=λw=>zny c.n f.pen w;clear belC PC bM bC Hb2 HP2;have HwC:=zH hwC;by_cases hp2:c.p=2
  ·have HE:Hid (zaZ s f=[]):=by show zaZ s f=[];rw[HAG.out,if_pos (.inl hp2)]
   go_wp2_with fail;go_ret;refine⟨.slice none 0 0,rfl,?_,HB2.out.alloc HB2.out.size _⟩;rw[HE.out];exact World.ownsRow_nil _ _ _ _
  ·cases hq:c.n.eqB f.pen with
   |false=>
    have HE:Hid (zaZ s f=[]):=by show zaZ s f=[];rw[HAG.out,if_pos (.inr hq)]
    simp only[hq,Bool.not_false] at hpe;go_wp2_with fail;go_ret;refine⟨.slice none 0 0,rfl,?_,HBC.out⟩;rw[HE.out];exact World.ownsRow_nil _ _ _ _
   |true=>
    have HE:Hid (zaZ s f=[⟨zdd c.r,0,zcH s f f.lx f.ly (wd c.r)⟩]):=by show zaZ s f=_;rw[HAG.out,if_neg (by rintro(q|q);exact hp2 q;rw[hq] at q;cases q)]
    simp only[hq,Bool.not_true] at hpe;have w01:0<=wd c.r/\wd c.r<=2:=by rcases Wd.wd_cases c.r with q|q|q<;>omega
    have w2':=ok.w2;go_wp2_with fail;have HPD:=zH HPC.out.drew;have zM:M<C+1:=by omega
    have zM1:M<C:=by omega
    have nM1:¬M=C+1:=by omega
    have nM2:¬C+1=M:=by omega
    have hw1:IntKind.i64.wrap (f.lx+wd c.r)=f.lx+wd c.r:=zm _ (by omega) (by omega);go_region_held3 (λw'=>w'.cell? ⟨M,0,none⟩=some (.int .i64 f.x)/\w'.cell? ⟨M,1,none⟩=some (.int .i64 f.y)/\w'.cell? ⟨M,2,none⟩=some (.bool f.pend)/\w'.cell? ⟨M,3,none⟩=some (.int .i64 f.pen.f)/\w'.cell? ⟨M,4,none⟩=some (.int .i64 f.pen.b)/\w'.cell? ⟨M,5,none⟩=some (.bool f.pen.bo)/\w'.cell? ⟨M,6,none⟩=some (.bool f.pen.un)/\w'.cell? ⟨M,7,none⟩=some (.bool f.pen.re)/\w'.cell? ⟨C,0,none⟩=some (.int .i32 c.r)) (simp[*,zdL,World.cell?_setCell_far]) (first|(go_at_call 129;refine sM (Wd.lettersWidth _ _) ?_)|(go_at_call 239;refine(zhX f _ _ _).mono ?_;rintro e w5 ⟨rfl,hb5⟩;have hb6:=zL hb5;have e1:=hb6.cells (b:=M) (by first|omega|(simp;omega));have e2:=hb6.cells (b:=C) (by first|omega|(simp;omega));have HB6:Hid (Below wC.heap.size wC w5):=(by first|exact hb6|exact((Below.refl _ _).alloc (Nat.le_refl _) _).trans (hb6.mono (by simp)));have z6:C<w5.heap.size:=(by have:=HB6.out.size;omega);have z7:M<w5.heap.size:=(by omega);(first|(have e3:=hb6.cells (b:=C+1) (by simp;omega);have e4:=hb6.marks (b:=C+1) (by simp;omega);have HD:Hid (w5.heap[C+1]?=some (.cells #[.int .i64 0,.int .i64 0,.bool false,.int .i64 0,.int .i64 0,.bool false,.bool false,.bool false] 235)):=(hb6.block (C+1) (by simp;omega)).trans (ZM _ _ (by omega)))|skip);clear hb5));all_goals
     first
      |(have hd:=HD.out
        obtain⟨wE,hwE⟩:∃wE,zs1 w5 (C+1) (f.move (f.lx+wd c.r) f.ly)=wE:=⟨_,rfl⟩;have E1:=hwE ▸ zo4 _ hd;have E2:=hwE ▸ ((zgm (zd.refl (λi=>i=C+1) w5) (C+1) (f.move (f.lx+wd c.r) f.ly) (λ_=>rfl)).block C z6 (by omega)).trans ((HB6.out.block C (by omega)).trans HbC.out);have E3:=hwE ▸ zlu ((zgm (zd.refl (λi=>i=C+1) w5) (C+1) (f.move (f.lx+wd c.r) f.ly) (λ_=>rfl)).toBelow (B:=w.heap.size) (by omega) (λi hi e=>by have:=HM.out;omega)) HBC.out HB6.out;have E4:=hwE ▸ (HPC.out.below HB6.out).keepC (zgm (zd.refl (λi=>i=C+1) w5) (C+1) (f.move (f.lx+wd c.r) f.ly) (λ_=>rfl)) HPC.out zC;unfold zs1 at hwE;rw[hwE];obtain⟨D,hD⟩:∃D,C+1=D:=⟨_,rfl⟩;have hCD:C<D:=by omega
        rw[hD] at E1 ⊢;clear hwE hD hd HD e3 e4)
      |(obtain⟨wE,hwE⟩:∃wE,w5.alloc (.cells (zeO (f.move (f.lx+wd c.r) f.ly)) 235)=wE:=⟨_,rfl⟩
        have E1:=hwE ▸ zf _ _;have E2:=hwE ▸ (zN _ _ z6).trans ((HB6.out.block C (by omega)).trans HbC.out);have E3:=hwE ▸ (HBC.out.trans (HB6.out.mono HBC.out.size)).alloc (Nat.le_trans HBC.out.size HB6.out.size) _;have E4:=hwE ▸ (HPC.out.below HB6.out).below ((Below.refl _ _).alloc (Nat.le_refl _) _);rw[hwE];obtain⟨D,hD⟩:∃D,w5.heap.size=D:=⟨_,rfl⟩;have hCD:C<D:=by omega
        rw[hD] at E1 ⊢;clear hwE hD)
     clear m0 m1 m2 m3 m4 m5 m6 m7 k0 k1 k2 k3 k4 k5 k6 hpe hw1 e1 e2 hwC;have d0:wE.cell? ⟨D,0,none⟩=some (.int .i64 (f.lx+wd c.r)):=za E1 0;have d1:wE.cell? ⟨D,1,none⟩=some (.int .i64 f.ly):=za E1 1;have d2:wE.cell? ⟨D,2,none⟩=some (.bool false):=za E1 2;have d3:wE.cell? ⟨D,3,none⟩=some (.int .i64 f.pen.f):=za E1 3;have d4:wE.cell? ⟨D,4,none⟩=some (.int .i64 f.pen.b):=za E1 4;have d5:wE.cell? ⟨D,5,none⟩=some (.bool f.pen.bo):=za E1 5;have d6:wE.cell? ⟨D,6,none⟩=some (.bool f.pen.un):=za E1 6;have d7:wE.cell? ⟨D,7,none⟩=some (.bool f.pen.re):=za E1 7;have fD:=ze E1;have kc:wE.cell? ⟨C,0,none⟩=some (.int .i32 c.r):=za E2 0;have nCD:¬C=D:=by omega
     have nDC:¬D=C:=by omega
     have HE3:=zH E3;have HE4:=zH E4;clear E1 E2 E3 E4;cases hin2:inG s.W s.H (f.lx+wd c.r) f.ly with
     |true=>
      have HN:Hid (zcH s f f.lx f.ly (wd c.r)=⟨f.lx+wd c.r,f.ly,false,f.pen⟩):=by show zcH s f f.lx f.ly (wd c.r)=_;unfold zcH;rw[if_pos hin2]
      go_wp2_with (go_at_call 121;refine sM (zlt bs bg g N s t _ _ _ HE4.out) ?_);go_ret;refine⟨.slice (some ⟨wE.heap.size,0,none⟩) 1 1,rfl,?_,HE3.out.alloc HE3.out.size _⟩;rw[HE.out,HN.out];have ho:=znD wE ⟨zdd c.r,0,⟨f.lx+wd c.r,f.ly,false,f.pen⟩⟩ w.heap.size HE3.out.size;rw[zq9] at ho;exact ho
     |false=>
      have HN:Hid (zcH s f f.lx f.ly (wd c.r)=⟨f.lx+wd c.r-1,f.ly,true,f.pen⟩):=by show zcH s f f.lx f.ly (wd c.r)=_;unfold zcH;rw[if_neg (by rw[hin2];decide)]
      go_wp2_with (go_at_call 121;refine sM (zlt bs bg g N s t _ _ _ HE4.out) ?_);go_ret;have hbl:Below w.heap.size w ((wE.setCell ⟨D,0,none⟩ (.int .i64 (f.lx+wd c.r-1))).setCell ⟨D,2,none⟩ (.bool true)):=(HE3.out.setCell (by show w.heap.size<=D;have:=HM.out;omega) _).setCell (by show w.heap.size<=D;have:=HM.out;omega) _;have ho:=znD ((wE.setCell ⟨D,0,none⟩ (.int .i64 (f.lx+wd c.r-1))).setCell ⟨D,2,none⟩ (.bool true)) ⟨zdd c.r,0,⟨f.lx+wd c.r-1,f.ly,true,f.pen⟩⟩ w.heap.size hbl.size;have hsz:((wE.setCell ⟨D,0,none⟩ (.int .i64 (f.lx+wd c.r-1))).setCell ⟨D,2,none⟩ (.bool true)).heap.size=wE.heap.size:=by simp[World.setCell]
      refine⟨.slice (some ⟨wE.heap.size,0,none⟩) 1 1,rfl,?_,hbl.alloc hbl.size _⟩;rw[HE.out,HN.out];rw[zq9,hsz] at ho;exact ho
abbrev zgP (g:Gl):Array Value:=#[.int .i64 g.x,.int .i64 g.y,.int .i64 g.pen.f,.int .i64 g.pen.b,.bool g.pen.bo,.bool g.pen.un,.bool g.pen.re,.bool g.letter]
abbrev zcJ (v:Wy):Array Value:=#[.string ⟨v.b.toArray⟩,.int .i64 v.k,.int .i64 v.e.x,.int .i64 v.e.y,.bool v.e.pend,.int .i64 v.e.pen.f,.int .i64 v.e.pen.b,.bool v.e.pen.bo,.bool v.e.pen.un,.bool v.e.pen.re]
structure zlv (wA wc:World) (v:Value) (L:List Wy):Prop where
 row:wc.ownsRow wA.heap.size 237 10 v L.length (ZG L)
 bel:Below wA.heap.size wA wc
theorem zhd {wA wc W w7:World} {v:Value} {L:List Wy} {u:Wy} {g7 cap7:Nat} (h:zlv wA wc v L) (hW:Below wc.heap.size wc W) (hg:W.grownBy w7 v.ownBlock) (hr:w7.ownsRow wA.heap.size 237 10 (.slice (some ⟨g7,0,none⟩) (L.length+1) cap7) (L.length+1) (ZG L++u.vals)):zlv wA w7 (.slice (some ⟨g7,0,none⟩) (L.length+1) cap7) (L ++ [u]):=by
 refine⟨?_,?_⟩
 ·have e:ZG L++u.vals=ZG (L ++ [u]):=by rw[zdM,zc9];simp[ZG]
  rw[e] at hr;rw[List.length_append];exact hr
 ·have hb:=h.bel.trans (hW.mono h.bel.size);exact hb.grown hg hb.size (λi hi=>(h.row.lt i hi).1)
theorem zje {w:World} {B B':Nat} {e:TypeId} {size:Nat} {v:Value} {n:Nat} {xs:List Value} (h:w.ownsRow B e size v n xs) (hB:B'<=B):w.ownsRow B' e size v n xs:=by
 refine⟨h.1,?_⟩;rcases h.2 with h0|⟨g,cap,cur,h1,h2,h3⟩
 ·exact .inl h0
 ·exact .inr ⟨g,cap,cur,h1,Nat.le_trans hB h2,h3⟩
def zeP (f:Sp) (g:Gl):List Wy:=[⟨[13],0,f.move 0 f.y⟩,⟨[8],0,f.move (zhR (f.x-1) 0) f.y⟩,⟨[],0,f.ink g.pen⟩]
theorem zra {wA w:World} (h:Below wA.heap.size wA w) (u v x:Wy):zlv wA (w.alloc (.cells #[.string ⟨u.b.toArray⟩,.int .i64 u.k,.int .i64 u.e.x,.int .i64 u.e.y,.bool u.e.pend,.int .i64 u.e.pen.f,.int .i64 u.e.pen.b,.bool u.e.pen.bo,.bool u.e.pen.un,.bool u.e.pen.re,.string ⟨v.b.toArray⟩,.int .i64 v.k,.int .i64 v.e.x,.int .i64 v.e.y,.bool v.e.pend,.int .i64 v.e.pen.f,.int .i64 v.e.pen.b,.bool v.e.pen.bo,.bool v.e.pen.un,.bool v.e.pen.re,.string ⟨x.b.toArray⟩,.int .i64 x.k,.int .i64 x.e.x,.int .i64 x.e.y,.bool x.e.pend,.int .i64 x.e.pen.f,.int .i64 x.e.pen.b,.bool x.e.pen.bo,.bool x.e.pen.un,.bool x.e.pen.re] 237)) (.slice (some ⟨w.heap.size,0,none⟩) 3 3) [u,v,x] :=
 ⟨⟨by rw[zcj],.inr ⟨w.heap.size,3,_,rfl,h.size,zf _ _,Nat.le_refl _,by decide,by simp,by simp[ZG]⟩⟩,h.alloc h.size _⟩
theorem zuP (bs bg g N:Nat) (s:Rs) (t:Pt) (f:Sp) (gl:Gl) (w:World) (h:zh w bs bg g N s t) (ok:s.Ok) (hf:f.In s) (hg:gl.In s):
 Calls Tryz.prog 225 #[.pointer (some ⟨bs,0,none⟩),f.agg,gl.agg] w (zj5 w (zbr s f gl)):=by
 obtain⟨ti,i1,i2,i3,i4⟩:=zlg;have x0:=hf.x0;have y0:=hf.y0;have x1:f.x<40:=by have:=hf.x1;have:=ok.w2;omega
 have y1:f.y<20:=by have:=hf.y1;have:=ok.h2;omega
 obtain⟨M,hM⟩:∃M,w.heap.size=M:=⟨_,rfl⟩;have HM:=zH hM;have HP:=zH h;have Hok:Hid (s.Ok/\f.In s/\gl.In s):=⟨ok,hf,hg⟩;have gx0:=hg.x0;have gx1:gl.x<40:=by have:=hg.x1;have:=ok.w2;omega
 have gy0:=hg.y0;have gy1:gl.y<20:=by have:=hg.y1;have:=ok.h2;omega
 clear h ok hf hg;go_in;go_wp2_with fail;have hA:∃wA,(w.alloc (.cells (zeO f) 235)).alloc (.cells (zgP gl) 211)=wA/\wA.heap.size=M+2/\wA.heap[M]?=some (.cells (zeO f) 235)/\wA.heap[M+1]?=some (.cells (zgP gl) 211)/\Below w.heap.size w wA:=by
  subst hM;refine⟨_,rfl,by simp,?_,ZM _ _ (by simp),((Below.refl _ _).alloc (Nat.le_refl _) _).alloc (by simp) _⟩;rw[zN _ _ (by simp),ZM _ _ rfl]
 obtain⟨wA,hwA,zA,bM,bG,belA⟩:=hA;rw[hwA];have HbA:=zH belA;have HbM:=zH bM;have HbG:=zH bG;have m0:wA.cell? ⟨M,0,none⟩=some (.int .i64 f.x):=za bM 0;have m1:wA.cell? ⟨M,1,none⟩=some (.int .i64 f.y):=za bM 1;have m2:wA.cell? ⟨M,2,none⟩=some (.bool f.pend):=za bM 2;have m3:wA.cell? ⟨M,3,none⟩=some (.int .i64 f.pen.f):=za bM 3;have m4:wA.cell? ⟨M,4,none⟩=some (.int .i64 f.pen.b):=za bM 4;have m5:wA.cell? ⟨M,5,none⟩=some (.bool f.pen.bo):=za bM 5;have m6:wA.cell? ⟨M,6,none⟩=some (.bool f.pen.un):=za bM 6;have m7:wA.cell? ⟨M,7,none⟩=some (.bool f.pen.re):=za bM 7;have g0:wA.cell? ⟨M+1,0,none⟩=some (.int .i64 gl.x):=za bG 0;have g1:wA.cell? ⟨M+1,1,none⟩=some (.int .i64 gl.y):=za bG 1;have g2:wA.cell? ⟨M+1,2,none⟩=some (.int .i64 gl.pen.f):=za bG 2;have g3:wA.cell? ⟨M+1,3,none⟩=some (.int .i64 gl.pen.b):=za bG 3;have g4:wA.cell? ⟨M+1,4,none⟩=some (.bool gl.pen.bo):=za bG 4;have g5:wA.cell? ⟨M+1,5,none⟩=some (.bool gl.pen.un):=za bG 5;have g6:wA.cell? ⟨M+1,6,none⟩=some (.bool gl.pen.re):=za bG 6;clear bM bG belA hwA;have hw1:IntKind.i64.wrap (f.x-1)=f.x-1:=zm _ (by omega) (by omega);have HB:Hid (Below wA.heap.size wA wA.drew):=(Below.refl _ _).drew;go_region_held3 (λw'=>w'.cell? ⟨M,0,none⟩=some (.int .i64 f.x)/\w'.cell? ⟨M,1,none⟩=some (.int .i64 f.y)/\w'.cell? ⟨M,2,none⟩=some (.bool f.pend)/\w'.cell? ⟨M,3,none⟩=some (.int .i64 f.pen.f)/\w'.cell? ⟨M,4,none⟩=some (.int .i64 f.pen.b)/\w'.cell? ⟨M,5,none⟩=some (.bool f.pen.bo)/\w'.cell? ⟨M,6,none⟩=some (.bool f.pen.un)/\w'.cell? ⟨M,7,none⟩=some (.bool f.pen.re)/\w'.cell? ⟨M+1,2,none⟩=some (.int .i64 gl.pen.f)/\w'.cell? ⟨M+1,3,none⟩=some (.int .i64 gl.pen.b)/\w'.cell? ⟨M+1,4,none⟩=some (.bool gl.pen.bo)/\w'.cell? ⟨M+1,5,none⟩=some (.bool gl.pen.un)/\w'.cell? ⟨M+1,6,none⟩=some (.bool gl.pen.re)) (simp[*,zdL]) (first
  |(go_at_call 239;refine(zhX f _ _ _).mono ?_;rintro e w5 ⟨rfl,hb5⟩;have hb6:=HB.out.trans (hb5.mono HB.out.size);have e1:=hb6.cells (b:=M) (by omega);have e2:=hb6.cells (b:=M+1) (by omega);have z5:M+1<w5.heap.size:=(by have:=hb6.size;omega);have z6:M<w5.heap.size:=(by omega);clear HB hb5;have HB:Hid _:=hb6;clear hb6)
  |(go_at_call 240;refine(zuu f gl.pen _).mono ?_;rintro e w5 ⟨rfl,hb5⟩;have hb6:=HB.out.trans (hb5.mono HB.out.size);have e1:=hb6.cells (b:=M) (by omega);have e2:=hb6.cells (b:=M+1) (by omega);have z5:M+1<w5.heap.size:=(by have:=hb6.size;omega);have z6:M<w5.heap.size:=(by omega);clear HB hb5;have HB:Hid _:=hb6;clear hb6)
  |(go_at_call 139;refine sM (zcf _ _ _) ?_))
 have HS:Hid (zlv wA (w5.alloc (.cells #[.string ⟨#[13]⟩,.int .i64 0,.int .i64 (f.move 0 f.y).x,.int .i64 (f.move 0 f.y).y,.bool (f.move 0 f.y).pend,.int .i64 (f.move 0 f.y).pen.f,.int .i64 (f.move 0 f.y).pen.b,.bool (f.move 0 f.y).pen.bo,.bool (f.move 0 f.y).pen.un,.bool (f.move 0 f.y).pen.re,.string ⟨#[8]⟩,.int .i64 0,.int .i64 (f.move (zK (f.x-1) 0) f.y).x,.int .i64 (f.move (zK (f.x-1) 0) f.y).y,.bool (f.move (zK (f.x-1) 0) f.y).pend,.int .i64 (f.move (zK (f.x-1) 0) f.y).pen.f,.int .i64 (f.move (zK (f.x-1) 0) f.y).pen.b,.bool (f.move (zK (f.x-1) 0) f.y).pen.bo,.bool (f.move (zK (f.x-1) 0) f.y).pen.un,.bool (f.move (zK (f.x-1) 0) f.y).pen.re,.string ⟨#[]⟩,.int .i64 0,.int .i64 (f.ink gl.pen).x,.int .i64 (f.ink gl.pen).y,.bool (f.ink gl.pen).pend,.int .i64 (f.ink gl.pen).pen.f,.int .i64 (f.ink gl.pen).pen.b,.bool (f.ink gl.pen).pen.bo,.bool (f.ink gl.pen).pen.un,.bool (f.ink gl.pen).pen.re] 237)) (.slice (some ⟨w5.heap.size,0,none⟩) 3 3) (zeP f gl)):=zra HB.out ⟨[13],0,f.move 0 f.y⟩ ⟨[8],0,f.move (zK (f.x-1) 0) f.y⟩ ⟨[],0,f.ink gl.pen⟩;clear hw1 e1 e2 z5 z6 HB;generalize w5.alloc _=wB at HS ⊢;generalize Value.slice (some ⟨w5.heap.size,0,none⟩) 3 3=v0 at HS ⊢;have HP1:=zH<|(HP.out.below HbA.out).below HS.out.bel
 have c1:=HS.out.bel.cells (b:=M) (by omega);have c2:=HS.out.bel.cells (b:=M+1) (by omega);go_upto_if 34 with(go_at_call 121;refine sM (zlt bs bg g N s t _ _ _ HP1.out) ?_);go_cut[7] (λv wc=>zlv wA wc v (zeP f gl++(if inG s.W s.H f.x (f.y+1)=true then[(⟨[10],0,f.move f.x (f.y+1)⟩:Wy)] else[])))
 case first=>
  have hlen:(zeP f gl).length<=10:=by show 3<=10;omega
  have hzB:=HS.out.bel.size;cases hin:inG s.W s.H f.x (f.y+1) with
  |true=>
   have HR:Hid ((if inG s.W s.H f.x (f.y+1)=true then[(⟨[10],0,f.move f.x (f.y+1)⟩:Wy)] else[])=[(⟨[10],0,f.move f.x (f.y+1)⟩:Wy)]):=by show _=_;rw[if_pos hin]
   go_wp2_with fail;go_at_call 239;refine(zhX f _ _ _).mono ?_;rintro e w6 ⟨rfl,hb6⟩;have HBc:=zH hb6;have hz6:=hb6.size;clear hb6;go_wp2_with (at_builtin;refine wpList_append_lies _ (by rfl) (.tmp 35) (.tmp 44) 239 (by rfl) wA.heap.size 237 ti _ 10 72 Tryz.underlying239 i1 i2 i3 i4 rfl (by decide) v0 (zeP f gl).length (ZG (zeP f gl)) (by rfl) (ZH HS.out.row (λi hi=>(zN _ _ (Nat.lt_of_lt_of_le (HS.out.row.lt i hi).2 HBc.out.size)).trans (HBc.out.block i (HS.out.row.lt i hi).2))) ⟨w6.heap.size,0,none⟩ 1 1 (Wy.vals (⟨[10],0,f.move f.x (f.y+1)⟩:Wy)) (by rfl) rfl (World.news_of_block (zf w6 _)) (zdN (⟨[10],0,f.move f.x (f.y+1)⟩:Wy)) (by decide) (by unfold maxLen;omega) (by omega) (by simp;omega) _ rfl ?_;intro g7 cap7 w7 hr7 hg7 ho7 hl7);have hsw:=zhd HS.out (HBc.out.alloc HBc.out.size _) hg7 hr7;have HSW:Hid _:=hsw;clear hsw hg7 hr7;go_meet
   case rel=>rw[HR.out];exact HSW.out
  |false=>
   have HR:Hid ((if inG s.W s.H f.x (f.y+1)=true then[(⟨[10],0,f.move f.x (f.y+1)⟩:Wy)] else[])=[]):=by show _=_;rw[if_neg (by rw[hin];decide)]
   go_wp2_with fail;go_meet
   case rel=>rw[HR.out,List.append_nil];exact HS.out
 case rest=>
  clear c1 c2;obtain⟨L2,hL2⟩:∃L,zeP f gl++(if inG s.W s.H f.x (f.y+1)=true then[(⟨[10],0,f.move f.x (f.y+1)⟩:Wy)] else[])=L:=⟨_,rfl⟩;have HL2:=zH hL2;rw[hL2] at hcut;have HS2:=zH hcut;clear hcut hL2;have hlen:L2.length<=6:=by rw[←HL2.out];simp only[List.length_append];have:(zeP f gl).length=3:=rfl;split<;>simp<;>omega
  have hzB:=HS2.out.bel.size;have c1:=HS2.out.bel.cells (b:=M) (by omega);have c2:=HS2.out.bel.cells (b:=M+1) (by omega);go_upto_if 50 with fail;go_cut[7] (λv wc=>zlv wA wc v (L2++(if f.y=gl.y then[] else[(⟨Zy (gl.y-f.y) 66 65,0,f.move f.x gl.y⟩:Wy)])))
  case first=>
   by_cases hc:f.y=gl.y
   ·have HR:Hid ((if f.y=gl.y then[] else[(⟨Zy (gl.y-f.y) 66 65,0,f.move f.x gl.y⟩:Wy)])=[]):=by show _=_;rw[if_pos hc]
    go_wp2_with fail;go_meet
    case rel=>rw[HR.out,List.append_nil];exact HS2.out
   ·have HR:Hid ((if f.y=gl.y then[] else[(⟨Zy (gl.y-f.y) 66 65,0,f.move f.x gl.y⟩:Wy)])=[(⟨Zy (gl.y-f.y) 66 65,0,f.move f.x gl.y⟩:Wy)]):=by show _=_;rw[if_neg hc]
    have HB:Hid (Below wc.heap.size wc wc.drew):=(Below.refl _ _).drew;have hw2:IntKind.i64.wrap (gl.y-f.y)=gl.y-f.y:=zm _ (by omega) (by omega);go_wp2_with fail;go_region_held_law (λw'=>w'.cell? ⟨M,0,none⟩=some (.int .i64 f.x)/\w'.cell? ⟨M,1,none⟩=some (.int .i64 f.y)/\w'.cell? ⟨M,2,none⟩=some (.bool f.pend)/\w'.cell? ⟨M,3,none⟩=some (.int .i64 f.pen.f)/\w'.cell? ⟨M,4,none⟩=some (.int .i64 f.pen.b)/\w'.cell? ⟨M,5,none⟩=some (.bool f.pen.bo)/\w'.cell? ⟨M,6,none⟩=some (.bool f.pen.un)/\w'.cell? ⟨M,7,none⟩=some (.bool f.pen.re)/\w'.cell? ⟨M+1,0,none⟩=some (.int .i64 gl.x)/\w'.cell? ⟨M+1,1,none⟩=some (.int .i64 gl.y)) (simp[*,zdL]) (first
     |(go_simp;go_at_call 201;refine(zmx _ _ _ _ (by omega) (by omega)).mono ?_;rintro e w5 ⟨rfl,hb5⟩;have hb6:=HB.out.trans (hb5.mono HB.out.size);have e1:=hb6.cells (b:=M) (by omega);have e2:=hb6.cells (b:=M+1) (by omega);clear HB hb5;have HB:Hid _:=hb6;clear hb6)
     |(go_simp;go_at_call 239;refine(zhX f _ _ _).mono ?_;rintro e w6 ⟨rfl,hb5⟩;have hb6:=HB.out.trans (hb5.mono HB.out.size);have e1:=hb6.cells (b:=M) (by omega);have e2:=hb6.cells (b:=M+1) (by omega);have hz6:=hb6.size;have z5:M+1<w6.heap.size:=(by omega);have z6:M<w6.heap.size:=(by omega);clear HB hb5;have HB:Hid _:=hb6;clear hb6)
     |(refine step_append_lies _ (by rfl) (.tmp 51) (.tmp 65) 239 (by rfl) wA.heap.size 237 ti _ 10 72 Tryz.underlying239 i1 i2 i3 i4 rfl (by decide) u7 L2.length (ZG L2) (by simp[Act.eval]) (ZH HS2.out.row (λi hi=>(zN _ _ (Nat.lt_of_lt_of_le (HS2.out.row.lt i hi).2 HB.out.size)).trans (HB.out.block i (HS2.out.row.lt i hi).2))) ⟨w6.heap.size,0,none⟩ 1 1 (Wy.vals (⟨Zy (gl.y-f.y) 66 65,0,f.move f.x gl.y⟩:Wy)) (by simp[Act.eval]) rfl (World.news_of_block (zf w6 _)) (zdN (⟨Zy (gl.y-f.y) 66 65,0,f.move f.x gl.y⟩:Wy)) (by decide) (by unfold maxLen;omega) (by omega) (by simp;omega) _ rfl ?_;intro g7 cap7 w7 hr7 hg7 ho7 hl7;have hsw:=zhd HS2.out (HB.out.alloc HB.out.size _) hg7 hr7;have e1:=hsw.bel.cells (b:=M) (by omega);have e2:=hsw.bel.cells (b:=M+1) (by omega);have HSW:Hid _:=hsw;clear hsw hg7 hr7;(try go_simp)))
    go_wp2_with fail;go_meet
    case rel=>rw[HR.out];exact HSW.out
  case rest=>
   obtain⟨L3,hL3⟩:∃L,L2++(if f.y=gl.y then[] else[(⟨Zy (gl.y-f.y) 66 65,0,f.move f.x gl.y⟩:Wy)])=L:=⟨_,rfl⟩;have HL3:=zH hL3;rw[hL3] at hcut;have HS3:=zH hcut;clear hcut hL3;have hlen:L3.length<=10:=by rw[←HL3.out];simp only[List.length_append];split<;>simp<;>omega
   have hzB:=HS3.out.bel.size;have c1:=HS3.out.bel.cells (b:=M) (by omega);have c2:=HS3.out.bel.cells (b:=M+1) (by omega);go_upto_if 71 with fail;go_cut[7] (λv wc=>zlv wA wc v (L3++(if f.x=gl.x then[] else[(⟨Zy (gl.x-f.x) 67 68,0,f.move gl.x f.y⟩:Wy)])))
   case first=>
    by_cases hc:f.x=gl.x
    ·have HR:Hid ((if f.x=gl.x then[] else[(⟨Zy (gl.x-f.x) 67 68,0,f.move gl.x f.y⟩:Wy)])=[]):=by show _=_;rw[if_pos hc]
     go_wp2_with fail;go_meet
     case rel=>rw[HR.out,List.append_nil];exact HS3.out
    ·have HR:Hid ((if f.x=gl.x then[] else[(⟨Zy (gl.x-f.x) 67 68,0,f.move gl.x f.y⟩:Wy)])=[(⟨Zy (gl.x-f.x) 67 68,0,f.move gl.x f.y⟩:Wy)]):=by show _=_;rw[if_neg hc]
     have HB:Hid (Below wc.heap.size wc wc.drew):=(Below.refl _ _).drew;have hw2:IntKind.i64.wrap (gl.x-f.x)=gl.x-f.x:=zm _ (by omega) (by omega);go_wp2_with fail;go_region_held_law (λw'=>w'.cell? ⟨M,0,none⟩=some (.int .i64 f.x)/\w'.cell? ⟨M,1,none⟩=some (.int .i64 f.y)/\w'.cell? ⟨M,2,none⟩=some (.bool f.pend)/\w'.cell? ⟨M,3,none⟩=some (.int .i64 f.pen.f)/\w'.cell? ⟨M,4,none⟩=some (.int .i64 f.pen.b)/\w'.cell? ⟨M,5,none⟩=some (.bool f.pen.bo)/\w'.cell? ⟨M,6,none⟩=some (.bool f.pen.un)/\w'.cell? ⟨M,7,none⟩=some (.bool f.pen.re)/\w'.cell? ⟨M+1,0,none⟩=some (.int .i64 gl.x)/\w'.cell? ⟨M+1,1,none⟩=some (.int .i64 gl.y)) (simp[*,zdL]) (first
      |(go_simp;go_at_call 201;refine(zmx _ _ _ _ (by omega) (by omega)).mono ?_;rintro e w5 ⟨rfl,hb5⟩;have hb6:=HB.out.trans (hb5.mono HB.out.size);have e1:=hb6.cells (b:=M) (by omega);have e2:=hb6.cells (b:=M+1) (by omega);clear HB hb5;have HB:Hid _:=hb6;clear hb6)
      |(go_simp;go_at_call 239;refine(zhX f _ _ _).mono ?_;rintro e w6 ⟨rfl,hb5⟩;have hb6:=HB.out.trans (hb5.mono HB.out.size);have e1:=hb6.cells (b:=M) (by omega);have e2:=hb6.cells (b:=M+1) (by omega);have hz6:=hb6.size;have z5:M+1<w6.heap.size:=(by omega);have z6:M<w6.heap.size:=(by omega);clear HB hb5;have HB:Hid _:=hb6;clear hb6)
      |(refine step_append_lies _ (by rfl) (.tmp 72) (.tmp 86) 239 (by rfl) wA.heap.size 237 ti _ 10 72 Tryz.underlying239 i1 i2 i3 i4 rfl (by decide) u7 L3.length (ZG L3) (by simp[Act.eval]) (ZH HS3.out.row (λi hi=>(zN _ _ (Nat.lt_of_lt_of_le (HS3.out.row.lt i hi).2 HB.out.size)).trans (HB.out.block i (HS3.out.row.lt i hi).2))) ⟨w6.heap.size,0,none⟩ 1 1 (Wy.vals (⟨Zy (gl.x-f.x) 67 68,0,f.move gl.x f.y⟩:Wy)) (by simp[Act.eval]) rfl (World.news_of_block (zf w6 _)) (zdN (⟨Zy (gl.x-f.x) 67 68,0,f.move gl.x f.y⟩:Wy)) (by decide) (by unfold maxLen;omega) (by omega) (by simp;omega) _ rfl ?_;intro g7 cap7 w7 hr7 hg7 ho7 hl7;have hsw:=zhd HS3.out (HB.out.alloc HB.out.size _) hg7 hr7;have e1:=hsw.bel.cells (b:=M) (by omega);have e2:=hsw.bel.cells (b:=M+1) (by omega);have HSW:Hid _:=hsw;clear hsw hg7 hr7;(try go_simp)))
     go_wp2_with fail;go_meet
     case rel=>rw[HR.out];exact HSW.out
   case rest=>
    obtain⟨L4,hL4⟩:∃L,L3++(if f.x=gl.x then[] else[(⟨Zy (gl.x-f.x) 67 68,0,f.move gl.x f.y⟩:Wy)])=L:=⟨_,rfl⟩;have HL4:=zH hL4;rw[hL4] at hcut;have HS4:=zH hcut;have hlen4:1<=L4.length/\L4.length<=20:=by
     have l3:1<=L3.length:=by
      rw[←HL3.out,←HL2.out];simp only[List.length_append];have:(zeP f gl).length=3:=rfl;omega
     have la:((if f.x=gl.x then[] else[(⟨Zy (gl.x-f.x) 67 68,0,f.move gl.x f.y⟩:Wy)])).length<=1:=by split<;>simp
     rw[←HL4.out,List.length_append];omega
    have hcap4:=hcut.row;obtain⟨g8,cap8,hu7⟩:=zam hcap4 hlen4.1;subst hu7;have hcap5:=zlc hcap4;clear hcut hL4 hcap4;have hzB:=HS4.out.bel.size;have c1:=HS4.out.bel.cells (b:=M) (by omega);have HP4:=zH<|(HP.out.below HbA.out).below HS4.out.bel
    have HEnd:Hid (zbr s f gl=L4++zaZ s f):=by
     show zbr s f gl=_;rw[←HL4.out,←HL3.out,←HL2.out];rfl
    go_wp2_with fail;go_at_call 241;refine(zuO bs bg g N s t f wc HP4.out Hok.out.1 Hok.out.2.1).mono ?_;rintro e w8 ⟨va,rfl,hra,hba⟩;have Hba:=zH hba;have hz8:=hba.size;have HS8:Hid (zlv wA w8 (.slice (some ⟨g8,0,none⟩) L4.length cap8) L4):=⟨ZH HS4.out.row (λi hi=>hba.block i (HS4.out.row.lt i hi).2),HS4.out.bel.trans (hba.mono hzB)⟩;clear hba;have ha1:(zaZ s f).length=0\/∃u,zaZ s f=[u]:=by
     unfold zaZ;split
     ·split
      ·exact .inl rfl
      ·exact .inr ⟨_,rfl⟩
     ·exact .inl rfl
    rcases ha1 with ha1|⟨u,ha1⟩
    ·have ha2:=List.eq_nil_of_length_eq_zero ha1;rw[ha2] at hra;have HA2:=zH ha2;clear ha2 ha1;have hfin:zj5 w (zbr s f gl) (.returned (.slice (some ⟨g8,0,none⟩) L4.length cap8)) w8:=by
      refine⟨_,rfl,?_,HbA.out.trans (HS8.out.bel.mono (by have:=HM.out;omega))⟩;rw[HEnd.out,HA2.out,List.append_nil];exact zje HS8.out.row (by have:=HM.out;omega)
     have HF:Hid _:=hfin;clear hfin;obtain⟨_,hv|⟨ga,ca,cur,hv,_⟩⟩:=hra
     ·obtain⟨rfl,_⟩:=hv;go_wp2_with fail;go_ret;exact HF.out
     ·subst hv;go_wp2_with fail;go_ret;exact HF.out
    ·rw[ha1] at hra;have HA2:=zH ha1;obtain⟨ga,ca,hva⟩:=zam hra (Nat.le_refl _);subst hva;have rgA:=zbt (L:=[u]) (n:=1) hra (k:=0) (by omega);have HrA:Hid (w8.rangeAt ga (0*10) (Wy.vals u)):=rgA;clear ha1 hra rgA;go_wp2_with (at_builtin;refine wpList_append_lies _ (by rfl) (.tmp 88) (.tmp 91) 239 (by rfl) wA.heap.size 237 ti _ 10 72 Tryz.underlying239 i1 i2 i3 i4 rfl (by decide) (.slice (some ⟨g8,0,none⟩) L4.length cap8) L4.length (ZG L4) (by rfl) HS8.out.row ⟨ga,0,none⟩ 1 ca (Wy.vals u) (by rfl) rfl (λj v hv=>by have:=HrA.out j v hv;rw[Addr.add_mid];simpa using this) (zdN u) (by decide) (by unfold maxLen;omega) (by omega) (by omega) _ rfl ?_;intro g7 cap7 w7 hr7 hg7 ho7 hl7);have hsw:=zhd HS8.out (Below.refl _ _) hg7 hr7;have HSW:=zH hsw;clear hsw hg7 hr7;go_ret;refine⟨_,rfl,?_,HbA.out.trans (HSW.out.bel.mono (by have:=HM.out;omega))⟩;rw[HEnd.out,HA2.out];exact zje HSW.out.row (by have:=HM.out;omega)
end
section
open Go.RowKit Go.Maps
theorem zo5:laidOutB Tryz.prog=true:=by kernel_rfl
theorem zrb:(235:TypeId)<Tryz.prog.types.size:=of_decide_eq_true (by kernel_rfl)
theorem zo6:(match Tryz.prog.underlying 235 with|some (.array _ _)|some (.struct _)=>true|_=>false)=true:=by rw[Tryz.underlying235]
theorem zrc:Tryz.prog.keyTypeAt 3 235=true:=by kernel_rfl
theorem zfU:Keyed Tryz.prog 235:=Keyed.of_law (deep_law_laid zo5 (m:=3) (by omega) zrb zrc zo6)
def zmH (p:Sp):List Lit:=[.int .i64 p.x,.int .i64 p.y,.bool p.pend,.int .i64 p.pen.f,.int .i64 p.pen.b,.bool p.pen.bo,.bool p.pen.un,.bool p.pen.re]
def zfe (p:Sp):Lit:=.string (keyBytes (zmH p))
structure Sp.Fits (p:Sp):Prop where
 x:(Lit.int .i64 p.x).wf=true
 y:(Lit.int .i64 p.y).wf=true
 f:(Lit.int .i64 p.pen.f).wf=true
 b:(Lit.int .i64 p.pen.b).wf=true
theorem zs2:Tryz.prog.keyType 235=true:=by kernel_rfl
theorem zo7:Tryz.prog.types.size=304:=by kernel_rfl
theorem zid:Tryz.prog.cellsOf 235=8:=by kernel_rfl
theorem zjf:Tryz.prog.cellsOf 33=5:=by kernel_rfl
theorem zjg:Tryz.prog.cellsOf 3=1:=by kernel_rfl
theorem zie:Tryz.prog.cellsOf 4=1:=by kernel_rfl
theorem zfV (d:Nat) {n:Int} (h:(Lit.int .i64 n).wf=true):Tryz.prog.keyLits (d+1) 3 [.int .i64 n]=some [.int .i64 n]:=by
 unfold Program.keyLits;rw[Tryz.underlying3];simp[h]
theorem zjh (d:Nat) (b:Bool):Tryz.prog.keyLits (d+1) 4 [.bool b]=some [.bool b]:=by
 unfold Program.keyLits;rw[Tryz.underlying4]
theorem zrd (d:Nat) {f b:Int} (bo un re:Bool) (hf:(Lit.int .i64 f).wf=true) (hb:(Lit.int .i64 b).wf=true):Tryz.prog.keyLits (d+2) 33 [.int .i64 f,.int .i64 b,.bool bo,.bool un,.bool re]=some [.int .i64 f,.int .i64 b,.bool bo,.bool un,.bool re]:=by
 unfold Program.keyLits;rw[Tryz.underlying33];simp only[zjf];rw[if_pos (by simp)];simp only[List.mapM_cons,List.mapM_nil,zjg,zie,List.drop_zero,List.drop_succ_cons,List.take_succ_cons,List.take_zero,zfV d hf,zfV d hb,zjh];rfl
theorem zo8 (d:Nat) {p:Sp} (h:p.Fits):Tryz.prog.keyLits (d+3) 235 [.int .i64 p.x,.int .i64 p.y,.bool p.pend,.int .i64 p.pen.f,.int .i64 p.pen.b,.bool p.pen.bo,.bool p.pen.un,.bool p.pen.re]=some (zmH p):=by
 unfold Program.keyLits;rw[Tryz.underlying235];simp only[zid];rw[if_pos (by simp)];simp only[List.mapM_cons,List.mapM_nil,zjg,zie,zjf,List.drop_zero,List.drop_succ_cons,List.take_succ_cons,List.take_zero,zfV (d+1) h.x,zfV (d+1) h.y,zjh,zrd d _ _ _ h.f h.b];rfl
theorem zfw {p:Sp} (h:p.Fits):keyOf Tryz.prog 235 p.agg=some (zfe p):=by
 unfold keyOf;simp only[Tryz.underlying235];rw[if_pos (by simp[zs2,Value.formed,Tryz.underlying235,zid]),zo7];have hl:Tryz.prog.keyLits (304+1) 235 p.agg.cells.toList=some (zmH p):=zo8 302 h;rw[hl];rfl
theorem zo9 {p q:Sp} (hp:p.Fits) (hq:q.Fits) (e:zfe p=zfe q):p=q:=by
 have h1:=zfw hq;rw[←e] at h1;have h:=zfU.inj (zfw hp) h1;obtain⟨x,y,pd,f,b,bo,un,re⟩:=p;obtain⟨x',y',pd',f',b',bo',un',re'⟩:=q;simp at h;simp[h]
theorem zs3 {p:Sp} (h1:-1000000<=p.x/\p.x<=1000000) (h2:-1000000<=p.y/\p.y<=1000000) (h3:-1000000<=p.pen.f/\p.pen.f<=1000000) (h4:-1000000<=p.pen.b/\p.pen.b<=1000000):p.Fits:=
 ⟨WalkArith.wf_i64 (by omega),WalkArith.wf_i64 (by omega),WalkArith.wf_i64 (by omega),WalkArith.wf_i64 (by omega)⟩
theorem zlw {a b:List UInt8} (h:(Lit.string a).sameKey (.string b)=true):Lit.string a=.string b:=by
 simpa[Lit.sameKey] using h
theorem zj6 (a:List UInt8):(Lit.string a).sameKey (.string a)=true:=by
 simp[Lit.sameKey]
def zff (kn:List Sp):DataW Unit:=setOf (.agg []) (kn.map zfe)
theorem zmI (kn:List Sp) (p:Sp):zff (kn ++ [p])=(zff kn).put (zfe p) (.agg []):=by
 unfold zff;rw[List.map_append];exact setOf_snoc _ _ _
theorem zji {kn:List Sp} {p:Sp} (hk:∀q∈kn,q.Fits) (hp:p.Fits):Maps.has (zff kn) (zfe p)=zeE kn p:=by
 unfold zff;rw[has_setOf _ _ _ (λx hx=>by obtain⟨q,hq,rfl⟩:=List.mem_map.1 hx;trivial)];unfold zeE;rw[List.any_map,Bool.eq_iff_iff,List.any_eq_true,List.any_eq_true];constructor
 ·rintro⟨q,hq,e⟩;refine⟨q,hq,Sp.eqB_iff.2 (zo9 (hk q hq) hp ?_)⟩;exact zlw e
 ·rintro⟨q,hq,e⟩;refine⟨q,hq,?_⟩;rw[Sp.eqB_iff.1 e];exact zj6 _
end
section
open Go.RowKit
attribute [local go_sem ↓] Go.wp_at_zero Go.wp_at_succ
theorem zj7 (bs bg g N:Nat) (s:Rs) (t:Pt) (w:World) (h:zh w bs bg g N s t):
 Calls Tryz.prog 63 #[.pointer (some ⟨bs,0,none⟩)] w λe w'=>e=.returned (zcs s.W s.H s.x s.y s.pend s.pen s.top s.bot (decide (t.mode=0)&&decide (t.bn=0)))/\Below w.heap.size w w':=by
 have HP:=zH h;have l:=h.lt;have c0:=h.f0;have c1:=h.f1;have c2:=h.f2;have c3:=h.f3;have c4:=h.f4;have c5:=h.f5;have c6:=h.f6;have c7:=h.f7;have c8:=h.f8;have c9:=h.f9;have c10:=h.f10;have c11:=h.f11;clear h;have nn:=World.new_ne w _ c0;go_in;go_wp2_with fail;have hbl:Below w.heap.size w (w.alloc (.cells #[.int .i64 0,.int .i64 0,.int .i64 0,.int .i64 0,.bool false,.int .i64 0,.int .i64 0,.bool false,.bool false,.bool false,.int .i64 0,.int .i64 0,.bool false] 59)):=(Below.refl _ _).alloc (Nat.le_refl _) _;have HD:=zH<|(HP.out.below hbl).drew
 clear hbl;by_cases hm0:t.mode=0
 ·rw[hm0] at c11;go_region_held3 (λw'=>w'.cell? ⟨bs,0,none⟩=some (.pointer (some ⟨bg,0,none⟩))/\w'.cell? ⟨bs,1,none⟩=some (.int .i64 s.x)/\w'.cell? ⟨bs,2,none⟩=some (.int .i64 s.y)/\w'.cell? ⟨bs,3,none⟩=some (.bool s.pend)/\w'.cell? ⟨bs,4,none⟩=some (.int .i64 s.pen.f)/\w'.cell? ⟨bs,5,none⟩=some (.int .i64 s.pen.b)/\w'.cell? ⟨bs,6,none⟩=some (.bool s.pen.bo)/\w'.cell? ⟨bs,7,none⟩=some (.bool s.pen.un)/\w'.cell? ⟨bs,8,none⟩=some (.bool s.pen.re)/\w'.cell? ⟨bs,9,none⟩=some (.int .i64 s.top)/\w'.cell? ⟨bs,10,none⟩=some (.int .i64 s.bot)/\w'.cell? ⟨bs,11,none⟩=some (.int .i64 0)) (go_keep) (first|(go_at_call 126;refine sM (zcC bg g s.W s.H N s.G _ HD.out.gr) ?_)|(go_at_call 127;refine sM (zbF bg g s.W s.H N s.G _ HD.out.gr) ?_)|(go_at_call 128;refine sM (zj2 bs bg g N s t _ HD.out) ?_));go_wp2_with fail;exact bodyPost_ret (v:=zcs s.W s.H s.x s.y s.pend s.pen s.top s.bot (decide (t.mode=0)&&decide (t.bn=0))) (by simp[results,Tryz.results63,go_sem,hm0]) rfl ⟨rfl,((Below.refl _ _).alloc (Nat.le_refl _) _).drew⟩
 ·have hm1:(t.mode==0)=false:=by simp[hm0]
  first|(go_region_held (λw'=>w'.cell? ⟨bs,0,none⟩=some (.pointer (some ⟨bg,0,none⟩))/\w'.cell? ⟨bs,1,none⟩=some (.int .i64 s.x)/\w'.cell? ⟨bs,2,none⟩=some (.int .i64 s.y)/\w'.cell? ⟨bs,3,none⟩=some (.bool s.pend)/\w'.cell? ⟨bs,4,none⟩=some (.int .i64 s.pen.f)/\w'.cell? ⟨bs,5,none⟩=some (.int .i64 s.pen.b)/\w'.cell? ⟨bs,6,none⟩=some (.bool s.pen.bo)/\w'.cell? ⟨bs,7,none⟩=some (.bool s.pen.un)/\w'.cell? ⟨bs,8,none⟩=some (.bool s.pen.re)/\w'.cell? ⟨bs,9,none⟩=some (.int .i64 s.top)/\w'.cell? ⟨bs,10,none⟩=some (.int .i64 s.bot)/\w'.cell? ⟨bs,11,none⟩=some (.int .i64 t.mode)) (go_keep) (first|(go_at_call 126;refine sM (zcC bg g s.W s.H N s.G _ HD.out.gr) ?_)|(go_at_call 127;refine sM (zbF bg g s.W s.H N s.G _ HD.out.gr) ?_)|(go_at_call 128;refine sM (zj2 bs bg g N s t _ HD.out) ?_)))|fail
  go_wp2_with fail;exact bodyPost_ret (v:=zcs s.W s.H s.x s.y s.pend s.pen s.top s.bot (decide (t.mode=0)&&decide (t.bn=0))) (by simp[results,Tryz.results63,go_sem,hm0]) rfl ⟨rfl,((Below.refl _ _).alloc (Nat.le_refl _) _).drew⟩
end
end Go.Proofs.YtjlfibhbfdckpaaGreatDoor
