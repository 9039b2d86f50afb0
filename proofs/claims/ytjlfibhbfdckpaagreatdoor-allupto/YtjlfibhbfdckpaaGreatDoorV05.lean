import Derived.Test.YtjlfibhbfdckpaaGreatDoorV04
namespace Go.Proofs.YtjlfibhbfdckpaaGreatDoor
set_option maxHeartbeats 64000000
set_option maxRecDepth 100000
section
open Go.RowKit
attribute [local go_sem ↓] Go.wp_at_zero Go.wp_at_succ
theorem ziC (bc g cap W H N:Nat) (G:Nat->Nat->zk) (top bot:Nat) (n:Int) (p:Pn) (w:World) (h:Zp w bc g cap W H N G) (hb:bot<H):
 Calls Tryz.prog 89 #[.pointer (some ⟨bc,0,none⟩),.int .i64 top,.int .i64 bot,.int .i64 n,p.agg] w λe w'=>∃g' cap',e=.returned (.tuple #[])/\Zp w' bc g' cap' W H N (zo top bot n p G)/\zd (λi=>i=bc) w w'/\w.heap.size<=g':=by
 have bl:=h.lt;have gl:=h.glt;have hw2:=h.w2;have hh2:=h.h2;have nle:=h.nle;have HN:=zH h.hN;have hl0:=zH h;clear h;go_in;go_wp2_with fail;have hb0:Below w.heap.size w (w.alloc (.cells #[.int .i64 p.f,.int .i64 p.b,.bool p.bo,.bool p.un,.bool p.re] 33)):=(Below.refl _ _).alloc (Nat.le_refl _) _;go_loopw[10,11] (λl i w'=>∃(y m:Nat),y<=H/\y*W=m/\i=.int .i64 y/\w'.ownsRow (w.heap.size+1) 38 7 l m (flat (Zl W (zo top bot n p G) m))/\Zp w' bc g cap W H N G/\Zf w' w.heap.size 0 p/\Below w.heap.size w w') (λ_ i _=>H-(intOf i).toNat)
 case atStart=>exact⟨0,0,by omega,by simp,rfl,World.ownsRow_nil _ _ _ _,hl0.out.below hb0,ZO _ _ _,hb0⟩
 case round=>
  obtain⟨y,m0,hy,hm0,rfl,hr,hC,hP,hB⟩:=hrel;have HR0:=zH hr;have HC0:=zH hC;have c1:=hC.c1;have Hm0:=zH hm0;clear hr hC hm0;by_cases hlt:y<H
  ·go_wp2_with fail;go_loopw[10,12] (λl i w'=>∃(x m:Nat),x<=W/\y*W+x=m/\i=.int .i64 x/\w'.ownsRow (w.heap.size+1) 38 7 l m (flat (Zl W (zo top bot n p G) m))/\Zp w' bc g cap W H N G/\Zf w' w.heap.size 0 p/\Below w.heap.size w w') (λ_ i _=>W-(intOf i).toNat)
   case atStart=>exact⟨0,m0,by omega,by have:=Hm0.out;omega,rfl,HR0.out,HC0.out,hP,hB⟩
   case round=>
    clear HR0 HC0 c1 hP hB;obtain⟨x,m,hx,hm,rfl,hr,hC,hP,hB⟩:=hrel;have Hm:=zH hm;have hm800:m<=800:=by
     have a:=HN.out;have b:y*W+W<=H*W:=by have:=Nat.mul_le_mul_right W hlt;rw[Nat.succ_mul] at this;exact this
     omega
    clear hm;by_cases hlx:x<W
    ·have c0:=hC.c0;have HR:=zH hr;clear hr;go_wp2_with fail;go_at_call 94;refine(zeo bc g cap W H N G x y _ hC (by omega) (by omega) (by omega) (by omega)).mono ?_;rintro e w2 ⟨rfl,hb2⟩;simp only[Int.toNat_natCast];have HC2:=zH<|hC.below hb2
     have P2:=hP.same (hb2.block _ hP.lt);have HR2:=zH<|zaM HR.out (λi hi=>hb2.block _ (HR.out.lt i hi).2)
     have B2:=hB.trans (hb2.mono hB.size);have s2:=P2.lt;clear hb2 hC hP hB HR c0;rcases(by omega:(y:Int)<top\/((top:Int)<=y/\(bot:Int)<y)\/((top:Int)<=y/\(y:Int)<=bot)) with a1|⟨a1,a2⟩|⟨a1,a2⟩
     ·have HCC:Hid (zo top bot n p G x y=G x y):=by unfold zo;exact if_neg (by omega)
      go_wp2_with ((at_builtin;refine zao _ (by rfl) (.tmp 70) (.tmp 72) (by rfl) (w.heap.size+1) u10 (Zl W (zo top bot n p G) m) (G x y) m (zax _ _ _) (by rfl) (zaM HR2.out (λi hi=>by have:=(HR2.out.lt i hi).2;rw[Below.heap_alloc _ _ _ (by simp;omega),Below.heap_alloc _ _ _ (by omega)])) (w2.heap.size+1) (by rfl) (zae _ _ _ (by simp)) (by omega) (by simp;omega) ?_;intro g7 cap7 w7 hr7 hg7 ho7 hl7));have bA:Below w2.heap.size w2 ((w2.alloc (.cells (zaG (G x y)) 38)).alloc (.cells (zaG (G x y)) 38)):=((Below.refl _ _).alloc (Nat.le_refl _) _).alloc (by simp) _;have bG:=λk hk hne=>(hg7.block k (by simp;omega) hne).trans (bA.block k hk);have r2:=λk hk=>(HR2.out.lt k hk).1;have C7:=HC2.out.same (bG _ HC2.out.lt (λe=>by have:=r2 _ e.symm;omega)) (bG _ HC2.out.glt (λe=>by have:=r2 _ e.symm;omega));have P7:=P2.same (bG _ P2.lt (λe=>by have:=r2 _ e.symm;omega));have B7:=(B2.trans (bA.mono (Nat.le_of_lt P2.lt))).grown hg7 (by simp;have:=P2.lt;omega) (λk hk=>by have:=r2 k hk;omega);clear bA bG r2 hg7;have e7:flat (Zl W (zo top bot n p G) m ++ [G x y])=flat (Zl W (zo top bot n p G) (m+1)):=by
       have:=za7 W (zo top bot n p G) x y hlx;rw[←Nat.add_assoc,Hm.out] at this;rw[this,HCC.out]
      rw[e7] at hr7;clear ho7 e7;go_wp2_with fail;go_roundw
      case rel=>exact⟨x+1,m+1,by omega,by have:=Hm.out;omega,by go_num,hr7,C7,P7,B7⟩
      case measure=>simp[intOf];omega
     ·have HCC:Hid (zo top bot n p G x y=G x y):=by unfold zo;exact if_neg (by omega)
      go_wp2_with ((at_builtin;refine zao _ (by rfl) (.tmp 70) (.tmp 72) (by rfl) (w.heap.size+1) u10 (Zl W (zo top bot n p G) m) (G x y) m (zax _ _ _) (by rfl) (zaM HR2.out (λi hi=>by have:=(HR2.out.lt i hi).2;rw[Below.heap_alloc _ _ _ (by simp;omega),Below.heap_alloc _ _ _ (by omega)])) (w2.heap.size+1) (by rfl) (zae _ _ _ (by simp)) (by omega) (by simp;omega) ?_;intro g7 cap7 w7 hr7 hg7 ho7 hl7));have bA:Below w2.heap.size w2 ((w2.alloc (.cells (zaG (G x y)) 38)).alloc (.cells (zaG (G x y)) 38)):=((Below.refl _ _).alloc (Nat.le_refl _) _).alloc (by simp) _;have bG:=λk hk hne=>(hg7.block k (by simp;omega) hne).trans (bA.block k hk);have r2:=λk hk=>(HR2.out.lt k hk).1;have C7:=HC2.out.same (bG _ HC2.out.lt (λe=>by have:=r2 _ e.symm;omega)) (bG _ HC2.out.glt (λe=>by have:=r2 _ e.symm;omega));have P7:=P2.same (bG _ P2.lt (λe=>by have:=r2 _ e.symm;omega));have B7:=(B2.trans (bA.mono (Nat.le_of_lt P2.lt))).grown hg7 (by simp;have:=P2.lt;omega) (λk hk=>by have:=r2 k hk;omega);clear bA bG r2 hg7;have e7:flat (Zl W (zo top bot n p G) m ++ [G x y])=flat (Zl W (zo top bot n p G) (m+1)):=by
       have:=za7 W (zo top bot n p G) x y hlx;rw[←Nat.add_assoc,Hm.out] at this;rw[this,HCC.out]
      rw[e7] at hr7;clear ho7 e7;go_wp2_with fail;go_roundw
      case rel=>exact⟨x+1,m+1,by omega,by have:=Hm.out;omega,by go_num,hr7,C7,P7,B7⟩
      case measure=>simp[intOf];omega
     ·obtain⟨p0,p1,p2,p3,p4⟩:=P2;go_wp2_with fail;go_at_call 95;refine(zaj p _).mono ?_;rintro e w3 ⟨rfl,hb3⟩;have P2:Zf w2 w.heap.size 0 p:=⟨p0,p1,p2,p3,p4⟩;have b23:=((Below.refl _ _).alloc (Nat.le_refl _) _).trans (hb3.mono (by simp));have s3:w2.heap.size<w3.heap.size:=by have:=hb3.size;simp at this;omega
      have C3:=HC2.out.below b23;have P3:=P2.same (b23.block _ s2);have HR3:=zH<|zaM HR2.out (λi hi=>b23.block _ (HR2.out.lt i hi).2)
      have R2lt:=HR2.out.lt;have k3:=zv.same ⟨za (zf w2 _) 0,za (zf w2 _) 1,za (zf w2 _) 2,za (zf w2 _) 3,za (zf w2 _) 4,za (zf w2 _) 5,za (zf w2 _) 6⟩ (hb3.block _ (by simp));have f3:=λo=>(hb3.marks (by simp) o).trans (ze (zf w2 _) o);have B3:=B2.trans (b23.mono (Nat.le_of_lt s2));have bcl:=HC2.out.lt;have gll:=HC2.out.glt;have HRl:=zH R2lt;have HC3:=zH C3;generalize hk:w2.heap.size=Bk at *;clear hb3 b23 P2 p0 p1 p2 p3 p4 HC2 HR2 B2 R2lt C3 hk;obtain⟨d0,d1,d2,d3,d4,d5,d6⟩:=k3;have hH:(H:Int)<=20:=by omega
      have hbi:(bot:Int)<H:=by omega
      rcases(by omega:n<=-100\/100<=n\/(-100<n/\n<100/\(y:Int)+n<top)\/(-100<n/\n<100/\(top:Int)<=(y:Int)+n/\(bot:Int)<(y:Int)+n)\/(-100<n/\n<100/\(top:Int)<=(y:Int)+n/\(y:Int)+n<=bot)) with b1|b1|⟨b1,b2,b3⟩|⟨b1,b2,b3,b4⟩|⟨b1,b2,b3,b4⟩
      ·have HCC:Hid (zo top bot n p G x y=blk p):=by unfold zo;rw[if_pos ⟨a1,a2⟩];exact if_neg (by omega)
       go_wp2_with ((at_builtin;refine zao _ (by rfl) (.tmp 70) (.tmp 72) (by rfl) (w.heap.size+1) u10 (Zl W (zo top bot n p G) m) (blk p) m (zax _ _ _) (by rfl) (zaM HR3.out (λi hi=>by have:=HRl.out i hi;exact(Below.heap_alloc _ _ _ (by simp;omega)).trans (zW w3 Bk 0 i (blk p) (by omega)))) w3.heap.size (by rfl) (zae _ _ _ (by simp)) (by omega) (by simp;omega) ?_;intro g7 cap7 w7 hr7 hg7 ho7 hl7));have bG:∀k,k<Bk->some k≠u10.ownBlock->w7.heap[k]?=w3.heap[k]?:=λk hk hne=>(hg7.block k (by simp;omega) hne).trans ((Below.heap_alloc _ _ _ (by simp;omega)).trans (zW w3 Bk 0 k (blk p) (by omega)));have C7:=HC3.out.same (bG _ bcl (λe=>by have:=HRl.out _ e.symm;omega)) (bG _ gll (λe=>by have:=HRl.out _ e.symm;omega));have P7:=P3.same (bG _ s2 (λe=>by have:=HRl.out _ e.symm;omega));have B4:Below w.heap.size w ((put7 w3 Bk 0 (blk p)).alloc (.cells (zaG (blk p)) 38)):=(((zd.below (λi=>Bk<=i) B3).put7 Bk 0 (blk p) (λ_=>Nat.le_refl _)).toBelow (Nat.le_refl _) (λi hi=>by omega)).alloc (by rw[zaJ];omega) _;have B7:=B4.grown hg7 (by rw[size_alloc,zaJ];omega) (λk hk=>by have:=(HRl.out k hk).1;omega);clear B4 bG hg7;have e7:flat (Zl W (zo top bot n p G) m ++ [blk p])=flat (Zl W (zo top bot n p G) (m+1)):=by
        have:=za7 W (zo top bot n p G) x y hlx;rw[←Nat.add_assoc,Hm.out] at this;rw[this,HCC.out]
       rw[e7] at hr7;clear ho7 e7;go_wp2_with fail;go_roundw
       case rel=>exact⟨x+1,m+1,by omega,by have:=Hm.out;omega,by go_num,hr7,C7,P7,B7⟩
       case measure=>simp[intOf];omega
      ·have HCC:Hid (zo top bot n p G x y=blk p):=by unfold zo;rw[if_pos ⟨a1,a2⟩];exact if_neg (by omega)
       go_wp2_with ((at_builtin;refine zao _ (by rfl) (.tmp 70) (.tmp 72) (by rfl) (w.heap.size+1) u10 (Zl W (zo top bot n p G) m) (blk p) m (zax _ _ _) (by rfl) (zaM HR3.out (λi hi=>by have:=HRl.out i hi;exact(Below.heap_alloc _ _ _ (by simp;omega)).trans (zW w3 Bk 0 i (blk p) (by omega)))) w3.heap.size (by rfl) (zae _ _ _ (by simp)) (by omega) (by simp;omega) ?_;intro g7 cap7 w7 hr7 hg7 ho7 hl7));have bG:∀k,k<Bk->some k≠u10.ownBlock->w7.heap[k]?=w3.heap[k]?:=λk hk hne=>(hg7.block k (by simp;omega) hne).trans ((Below.heap_alloc _ _ _ (by simp;omega)).trans (zW w3 Bk 0 k (blk p) (by omega)));have C7:=HC3.out.same (bG _ bcl (λe=>by have:=HRl.out _ e.symm;omega)) (bG _ gll (λe=>by have:=HRl.out _ e.symm;omega));have P7:=P3.same (bG _ s2 (λe=>by have:=HRl.out _ e.symm;omega));have B4:Below w.heap.size w ((put7 w3 Bk 0 (blk p)).alloc (.cells (zaG (blk p)) 38)):=(((zd.below (λi=>Bk<=i) B3).put7 Bk 0 (blk p) (λ_=>Nat.le_refl _)).toBelow (Nat.le_refl _) (λi hi=>by omega)).alloc (by rw[zaJ];omega) _;have B7:=B4.grown hg7 (by rw[size_alloc,zaJ];omega) (λk hk=>by have:=(HRl.out k hk).1;omega);clear B4 bG hg7;have e7:flat (Zl W (zo top bot n p G) m ++ [blk p])=flat (Zl W (zo top bot n p G) (m+1)):=by
        have:=za7 W (zo top bot n p G) x y hlx;rw[←Nat.add_assoc,Hm.out] at this;rw[this,HCC.out]
       rw[e7] at hr7;clear ho7 e7;go_wp2_with fail;go_roundw
       case rel=>exact⟨x+1,m+1,by omega,by have:=Hm.out;omega,by go_num,hr7,C7,P7,B7⟩
       case measure=>simp[intOf];omega
      ·have HCC:Hid (zo top bot n p G x y=blk p):=by unfold zo;rw[if_pos ⟨a1,a2⟩];exact if_neg (by omega)
       go_wp2_with ((at_builtin;refine zao _ (by rfl) (.tmp 70) (.tmp 72) (by rfl) (w.heap.size+1) u10 (Zl W (zo top bot n p G) m) (blk p) m (zax _ _ _) (by rfl) (zaM HR3.out (λi hi=>by have:=HRl.out i hi;exact(Below.heap_alloc _ _ _ (by simp;omega)).trans (zW w3 Bk 0 i (blk p) (by omega)))) w3.heap.size (by rfl) (zae _ _ _ (by simp)) (by omega) (by simp;omega) ?_;intro g7 cap7 w7 hr7 hg7 ho7 hl7));have bG:∀k,k<Bk->some k≠u10.ownBlock->w7.heap[k]?=w3.heap[k]?:=λk hk hne=>(hg7.block k (by simp;omega) hne).trans ((Below.heap_alloc _ _ _ (by simp;omega)).trans (zW w3 Bk 0 k (blk p) (by omega)));have C7:=HC3.out.same (bG _ bcl (λe=>by have:=HRl.out _ e.symm;omega)) (bG _ gll (λe=>by have:=HRl.out _ e.symm;omega));have P7:=P3.same (bG _ s2 (λe=>by have:=HRl.out _ e.symm;omega));have B4:Below w.heap.size w ((put7 w3 Bk 0 (blk p)).alloc (.cells (zaG (blk p)) 38)):=(((zd.below (λi=>Bk<=i) B3).put7 Bk 0 (blk p) (λ_=>Nat.le_refl _)).toBelow (Nat.le_refl _) (λi hi=>by omega)).alloc (by rw[zaJ];omega) _;have B7:=B4.grown hg7 (by rw[size_alloc,zaJ];omega) (λk hk=>by have:=(HRl.out k hk).1;omega);clear B4 bG hg7;have e7:flat (Zl W (zo top bot n p G) m ++ [blk p])=flat (Zl W (zo top bot n p G) (m+1)):=by
        have:=za7 W (zo top bot n p G) x y hlx;rw[←Nat.add_assoc,Hm.out] at this;rw[this,HCC.out]
       rw[e7] at hr7;clear ho7 e7;go_wp2_with fail;go_roundw
       case rel=>exact⟨x+1,m+1,by omega,by have:=Hm.out;omega,by go_num,hr7,C7,P7,B7⟩
       case measure=>simp[intOf];omega
      ·have HCC:Hid (zo top bot n p G x y=blk p):=by unfold zo;rw[if_pos ⟨a1,a2⟩];exact if_neg (by omega)
       go_wp2_with ((at_builtin;refine zao _ (by rfl) (.tmp 70) (.tmp 72) (by rfl) (w.heap.size+1) u10 (Zl W (zo top bot n p G) m) (blk p) m (zax _ _ _) (by rfl) (zaM HR3.out (λi hi=>by have:=HRl.out i hi;exact(Below.heap_alloc _ _ _ (by simp;omega)).trans (zW w3 Bk 0 i (blk p) (by omega)))) w3.heap.size (by rfl) (zae _ _ _ (by simp)) (by omega) (by simp;omega) ?_;intro g7 cap7 w7 hr7 hg7 ho7 hl7));have bG:∀k,k<Bk->some k≠u10.ownBlock->w7.heap[k]?=w3.heap[k]?:=λk hk hne=>(hg7.block k (by simp;omega) hne).trans ((Below.heap_alloc _ _ _ (by simp;omega)).trans (zW w3 Bk 0 k (blk p) (by omega)));have C7:=HC3.out.same (bG _ bcl (λe=>by have:=HRl.out _ e.symm;omega)) (bG _ gll (λe=>by have:=HRl.out _ e.symm;omega));have P7:=P3.same (bG _ s2 (λe=>by have:=HRl.out _ e.symm;omega));have B4:Below w.heap.size w ((put7 w3 Bk 0 (blk p)).alloc (.cells (zaG (blk p)) 38)):=(((zd.below (λi=>Bk<=i) B3).put7 Bk 0 (blk p) (λ_=>Nat.le_refl _)).toBelow (Nat.le_refl _) (λi hi=>by omega)).alloc (by rw[zaJ];omega) _;have B7:=B4.grown hg7 (by rw[size_alloc,zaJ];omega) (λk hk=>by have:=(HRl.out k hk).1;omega);clear B4 bG hg7;have e7:flat (Zl W (zo top bot n p G) m ++ [blk p])=flat (Zl W (zo top bot n p G) (m+1)):=by
        have:=za7 W (zo top bot n p G) x y hlx;rw[←Nat.add_assoc,Hm.out] at this;rw[this,HCC.out]
       rw[e7] at hr7;clear ho7 e7;go_wp2_with fail;go_roundw
       case rel=>exact⟨x+1,m+1,by omega,by have:=Hm.out;omega,by go_num,hr7,C7,P7,B7⟩
       case measure=>simp[intOf];omega
      ·have HCC:Hid (zo top bot n p G x y=G x ((y:Int)+n).toNat):=by unfold zo;rw[if_pos ⟨a1,a2⟩];exact if_pos ⟨b3,b4⟩
       have C4:Zp (put7 w3 Bk 0 (blk p)) bc g cap W H N G:=HC3.out.same (zW _ _ _ _ _ (by omega)) (zW _ _ _ _ _ (by omega));go_wp2_with fail;go_at_call 94;refine(zeo bc g cap W H N G x ((y:Int)+n) _ C4 (by omega) (by omega) (by omega) (by omega)).mono ?_;rintro e w5 ⟨rfl,hb5⟩;simp only[Int.toNat_natCast];have b5:=hb5;rw[zaJ] at b5;have C5:=C4.same (b5.block _ (by omega)) (b5.block _ (by omega));have P5:=(P3.same (zW w3 Bk 0 _ (blk p) (by omega))).same (b5.block _ (by omega));have HR5:=zH<|zaM HR3.out (λi hi=>by have:=HRl.out i hi;exact(b5.block i (by omega)).trans (zW w3 Bk 0 i (blk p) (by omega)))
       have k5:=(zai (c:=blk p) ⟨d0,d1,d2,d3,d4,d5,d6⟩).same (b5.block _ s3);have f5:=λo=>(b5.marks s3 o).trans (by unfold put7;simp only[zdS];exact f3 o);have B4:=((zd.below (λi=>Bk<=i) B3).put7 Bk 0 (blk p) (λ_=>Nat.le_refl _)).toBelow (Nat.le_refl _) (λi hi=>by omega);have B5:=B4.trans (b5.mono (by omega));have s5:=k5.lt;have HC5:=zH C5;obtain⟨d0,d1,d2,d3,d4,d5,d6⟩:=k5;clear hb5 b5 B4 C4 C5 HC3 HR3 P3 B3 f3;generalize hcc:G x ((y:Int)+n).toNat=c5 at *;have Hcc:=zH hcc;clear hcc;go_wp2_with ((at_builtin;refine zao _ (by rfl) (.tmp 70) (.tmp 72) (by rfl) (w.heap.size+1) u10 (Zl W (zo top bot n p G) m) c5 m (zax _ _ _) (by rfl) (zaM HR5.out (λi hi=>by have:=HRl.out i hi;exact(Below.heap_alloc _ _ _ (by simp;omega)).trans (zW w5 Bk 0 i c5 (by omega)))) w5.heap.size (by rfl) (zae _ _ _ (by simp)) (by omega) (by simp;omega) ?_;intro g7 cap7 w7 hr7 hg7 ho7 hl7));have bG:∀k,k<Bk->some k≠u10.ownBlock->w7.heap[k]?=w5.heap[k]?:=λk hk hne=>(hg7.block k (by simp;omega) hne).trans ((Below.heap_alloc _ _ _ (by simp;omega)).trans (zW w5 Bk 0 k c5 (by omega)));have C7:=HC5.out.same (bG _ bcl (λe=>by have:=HRl.out _ e.symm;omega)) (bG _ gll (λe=>by have:=HRl.out _ e.symm;omega));have P7:=P5.same (bG _ s2 (λe=>by have:=HRl.out _ e.symm;omega));have B6:Below w.heap.size w ((put7 w5 Bk 0 c5).alloc (.cells (zaG c5) 38)):=(((zd.below (λi=>Bk<=i) B5).put7 Bk 0 c5 (λ_=>Nat.le_refl _)).toBelow (Nat.le_refl _) (λi hi=>by omega)).alloc (by rw[zaJ];omega) _;have B7:=B6.grown hg7 (by rw[size_alloc,zaJ];omega) (λk hk=>by have:=(HRl.out k hk).1;omega);clear B6 bG hg7;have e7:flat (Zl W (zo top bot n p G) m ++ [c5])=flat (Zl W (zo top bot n p G) (m+1)):=by
        have:=za7 W (zo top bot n p G) x y hlx;rw[←Nat.add_assoc,Hm.out] at this;rw[this,HCC.out]
       rw[e7] at hr7;clear ho7 e7;go_wp2_with fail;go_roundw
       case rel=>exact⟨x+1,m+1,by omega,by have:=Hm.out;omega,by go_num,hr7,C7,P7,B7⟩
       case measure=>simp[intOf];omega
    ·obtain rfl:x=W:=by omega
     have c0:=hC.c0;have HR:=zH hr;have HC:=zH hC;clear hr hC;go_wp2_with fail;go_roundw
     case rel=>exact⟨y+1,m,by omega,by rw[Nat.succ_mul];exact Hm.out,by go_num,HR.out,HC.out,hP,hB⟩
     case measure=>simp[intOf];omega
  ·obtain rfl:y=H:=by omega
   have hmN:m0=N:=by rw[←Hm0.out];exact HN.out.symm
   subst hmN;have wf1:=HC0.out.w1;have hf1:=HC0.out.h1;obtain⟨g8,cap8,rfl⟩:=zam HR0.out (by rw[HN.out];exact Nat.mul_pos hf1 wf1);have hg8:=zlP HR0.out;have hbb:=HC0.out.blk;have c2:=HC0.out.c2;have fb:=ze hbb;have Hbb:=zH hbb;clear hbb;go_wp2_with fail;go_end0;refine⟨g8,cap8,rfl,?_,(zd.below (λi=>i=bc) hB).setCell _ _ (λ_=>rfl),by omega⟩;have hb9:=zg Hbb.out 2 (.slice (some ⟨g8,0,none⟩) m0 cap8);exact zkj hb9 (zaM HR0.out (λi hi=>by cases hi;exact Below.heap_setCell _ _ _ _ (by show g8≠bc;omega))) HN.out (by omega) wf1 hw2 hf1 hh2
theorem zlS (c:zk) (w:World):(Instr.field 38 c.agg 1).run Tryz.prog w=.ok (.int .i64 c.p) w:=by kernel_rfl
theorem ziD (bc g cap W H N:Nat) (G:Nat->Nat->zk) (w:World) (h:Zp w bc g cap W H N G) (ha:Aw W H G):
 Calls Tryz.prog 142 #[.pointer (some ⟨bc,0,none⟩)] w λe w'=>e=.returned (.tuple #[])/\Zp w' bc g cap W H N (zfA W G)/\zd (λi=>i=g) w w':=by
 have hw2:=h.w2;have hh2:=h.h2;have nle:=h.nle;have HN:Hid (N=H*W):=h.hN;have hl0:Hid (Zp w bc g cap W H N G):=h;clear h;have hfp:=zlS;go_in;go_wp2_with fail;go_loopw[2] (λi w'=>∃(y m:Nat),y<=H/\y*W=m/\i=.int .i64 y/\Zp w' bc g cap W H N (bk W G m)/\zd (λi=>i=g) w w') (λi _=>H-(intOf i).toNat)
 case atStart=>exact⟨0,0,by omega,by simp,rfl,hl0.out.congr (λa b _ _=>by simp[bk]),zd.refl _ _⟩
 case round=>
  obtain⟨y,m0,hy,hm0,rfl,hC,hK⟩:=hrel;have HC0:Hid (Zp wr bc g cap W H N (bk W G m0)):=hC;have c1:=hC.c1;have Hm0:Hid (y*W=m0):=hm0;clear hC hm0;by_cases hlt:y<H
  ·go_wp2_with fail;go_loopw[3] (λi w'=>∃(x m:Nat),x<=W/\y*W+x=m/\i=.int .i64 x/\Zp w' bc g cap W H N (bk W G m)/\zd (λi=>i=g) w w') (λi _=>W-(intOf i).toNat)
   case atStart=>exact⟨0,m0,by omega,by have:=Hm0.out;omega,rfl,HC0.out,hK⟩
   case round=>
    clear HC0 c1 hK;obtain⟨x,m,hx,hm,rfl,hC,hK⟩:=hrel;have Hm:Hid (y*W+x=m):=hm;have HC:Hid (Zp wr bc g cap W H N (bk W G m)):=hC;have c0:=hC.c0;clear hC hm;by_cases hlx:x<W
    ·have hbk:bk W G m x y=G x y:=by rw[←Hm.out];exact zvn W G x y
     have hbr:bk W G m (x+1) y=G (x+1) y:=by rw[←Hm.out];exact zpt W G x y
     have hbl:1<=x->bk W G m (x-1) y=G (x-1) y:=λq=>by rw[←Hm.out];exact zrN W G x y hlx q
     have Hbl:Hid (1<=x->bk W G m (x-1) y=G (x-1) y):=hbl;clear hbl;have three:(G x y).p=1/\(x+1<W->(G (x+1) y).p=2)\/(G x y).p=2/\1<=x/\(G (x-1) y).p=1\/(G x y).p≠1/\((G x y).p==1)=false/\((G x y).p==2)=false:=by
      rcases(by omega:(G x y).p=1\/(G x y).p=2\/((G x y).p≠1/\(G x y).p≠2)) with hp|hp|hp
      ·exact .inl ⟨hp,λq=>ha.head x y q hlt hp⟩
      ·exact .inr (.inl ⟨hp,ha.tail x y hlx hlt hp⟩)
      ·exact .inr (.inr ⟨hp.1,by simpa using hp.1,by simpa using hp.2⟩)
     rcases three with⟨P,PR⟩|⟨P,hq1,PL⟩|⟨P,P1,P2⟩<;>by_cases hr1:x+1<W<;>by_cases hx1:1<=x;all_goals first|exact absurd hq1 hx1|skip
     all_goals
      first|replace PR:=PR hr1|clear PR|skip
      try have hx0:(x:Int)<1:=by omega
      go_wp2_with fail;go_at_call 94;refine(zeo bc g cap W H N _ x y _ HC.out (by omega) (by omega) (by omega) (by omega)).mono ?_;rintro e w2 ⟨rfl,hb2⟩;simp only[Int.toNat_natCast,hbk];have HC2:Hid (Zp w2 bc g cap W H N (bk W G m)):=HC.out.below hb2;have K2:zd (λi=>i=g) w w2:=hK.thenBelow hb2;have c02:=HC2.out.c0;have bl2:=HC2.out.lt;have gl2:=HC2.out.glt;clear hb2 HC hK c0;go_wp2_with fail;generalize hWW:w2.alloc _=WW;have b5:Below w2.heap.size w2 WW:=by rw[←hWW];exact(Below.refl _ _).alloc (Nat.le_refl _) _
      have HC5:=zH (HC2.out.below b5);have K5:=K2.thenBelow b5;have k5:zv WW w2.heap.size 0 (G x y):=by rw[←hWW];first|exact zcq w2 (G x y) _ P _|exact zcq w2 (G x y) _ rfl _
      have ng2:g≠w2.heap.size:=by omega
      clear hWW b5 HC2 K2 c02;generalize w2.heap.size=B2 at *;have c0:=HC5.out.c0;have k1:=k5.2.1;try rw[P] at k1
      try
       (have hh:x+1<W:=hr1
        go_at_call 94;refine(zeo bc g cap W H N _ ((x:Int)+1) y _ HC5.out (by omega) (by omega) (by omega) (by omega)).mono ?_;rintro e w3 ⟨rfl,hb3⟩;have tx:((x:Int)+1).toNat=x+1:=by omega
        simp only[Int.toNat_natCast,tx,hbr];replace HC5:=zH (HC5.out.below hb3);replace K5:=K5.thenBelow hb3;replace k5:=k5.below hb3 k5.lt;replace c0:=HC5.out.c0;replace k1:=k5.2.1;try rw[P] at k1
        clear hb3;go_wp2_with fail)
      try
       (have hh:1<=x:=hx1
        go_at_call 94;refine(zeo bc g cap W H N _ ((x:Int)-1) y _ HC5.out (by omega) (by omega) (by omega) (by omega)).mono ?_;rintro e w4 ⟨rfl,hb4⟩;have ty:((x:Int)-1).toNat=x-1:=by omega
        simp only[Int.toNat_natCast,ty,Hbl.out hx1];replace HC5:=zH (HC5.out.below hb4);replace K5:=K5.thenBelow hb4;replace k5:=k5.below hb4 k5.lt;replace c0:=HC5.out.c0;replace k1:=k5.2.1;try rw[P] at k1
        clear hb4;go_wp2_with fail)
      first
       |(have hnp:(G x y).p≠1\/x+1<W:=by omega
         go_roundw
         case rel=>
          refine⟨x+1,m+1,by omega,by have:=Hm.out;omega,by go_num,HC5.out.congr ?_,K5⟩;have:=zrO W H G x y hlx (by omega);rw[Hm.out] at this;exact this
         case measure=>simp[intOf];omega)
       |(have C5:=HC5.out
         clear k1 c0;have hl:y*W+x<N:=by rw[HN.out];exact zas hlx hlt
         rw[Hm.out] at hl;obtain⟨mm,hmm⟩:∃mm,y*W=mm:=⟨_,rfl⟩;have hv1:IntKind.i64.wrap ((y:Int)*(W:Int))=(mm:Int):=by rw[←Int.natCast_mul,hmm];exact zm _ (by omega) (by have:=Hm.out;omega)
         have hv2:IntKind.i64.wrap ((mm:Int)+(x:Int))=(m:Int):=by have:=Hm.out;rw[zm _ (by omega) (by omega)];omega
         have hi1:(0:Int)<=(m:Int):=by omega
         have hi2:(m:Int)<(N:Int):=by omega
         clear hmm;have tgt:=C5.grid.cel x y hlx hlt;rw[Hm.out] at tgt;obtain⟨t0,t1,t2,t3,t4,t5,t6⟩:=tgt;have fr:=C5.grid.free;have q0:=C5.c0;have q2:=C5.c2;have s3:=k5.lt;obtain⟨d0,d1,d2,d3,d4,d5,d6⟩:=k5;have lb:=C5.lt;have lg:=C5.glt;have ng1:g≠bc:=λe=>C5.ne e.symm;clear C5;go_region_held3 (λw'=>w'.cell? ⟨bc,0,none⟩=some (.int .i64 W)/\w'.cell? ⟨bc,2,none⟩=some (.slice (some ⟨g,0,none⟩) N cap)/\w'.cell? ⟨B2,2,none⟩=some (.int .i64 (G x y).n.f)/\w'.cell? ⟨B2,3,none⟩=some (.int .i64 (G x y).n.b)/\w'.cell? ⟨B2,4,none⟩=some (.bool (G x y).n.bo)/\w'.cell? ⟨B2,5,none⟩=some (.bool (G x y).n.un)/\w'.cell? ⟨B2,6,none⟩=some (.bool (G x y).n.re)/\(w'.cell? ⟨g,m*7,none⟩).isSome=true/\(w'.cell? ⟨g,m*7+1,none⟩).isSome=true/\(w'.cell? ⟨g,m*7+2,none⟩).isSome=true/\(w'.cell? ⟨g,m*7+3,none⟩).isSome=true/\(w'.cell? ⟨g,m*7+4,none⟩).isSome=true/\(w'.cell? ⟨g,m*7+5,none⟩).isSome=true/\(w'.cell? ⟨g,m*7+6,none⟩).isSome=true/\(∀o,w'.frozen? ⟨g,o,none⟩=false)) (simp[*,World.cell?_setCell_far,ZZ]) (first|(go_at_call 95;refine(zaj (G x y).n _).mono ?_;rintro e w5 ⟨rfl,hb5⟩;have e1:=hb5.cells lb;have e2:=hb5.cells s3;have e3:=hb5.cells lg;have e4:=hb5.marks lg));have hb5:=zL hb5;have C6:=(HC5.out.below hb5).put hlx hlt (blk (G x y).n);rw[Hm.out] at C6;have K6:zd (λi=>i=g) w (put7 w5 g (m*7) (blk (G x y).n)):=(K5.thenBelow hb5).put7 _ _ _ (λ_=>rfl);generalize hW6:put7 w5 g (m*7) (blk (G x y).n)=w6 at *;unfold put7 at hW6;rw[hW6];rename_i hS;clear hS hW6 e1 e2 e3 e4 q0 q2 d0 d1 d2 d3 d4 d5 d6 t0 t1 t2 t3 t4 t5 t6 fr;go_wp2_with fail;go_roundw
         case rel=>
          refine⟨x+1,m+1,by omega,by have:=Hm.out;omega,by go_num,C6.congr ?_,K6⟩;have:=ztS W H G x y hlx ⟨by omega,P⟩;rw[Hm.out] at this;exact this
         case measure=>simp[intOf];omega)
    ·obtain rfl:x=W:=by omega
     go_wp2_with fail;go_roundw
     case rel=>exact⟨y+1,m,by omega,by rw[Nat.succ_mul];exact Hm.out,by go_num,HC.out,hK⟩
     case measure=>simp[intOf];omega
  ·obtain rfl:y=H:=by omega
   go_wp2_with fail;go_end0;refine⟨rfl,HC0.out.congr ?_,hK⟩;rw[←Hm0.out];exact ztT W y G
theorem zhj (bc g cap W H N W' H':Nat) (G:Nat->Nat->zk) (w:World) (h:Zp w bc g cap W H N G) (hwf:Wf W H G) (w1:1<=W') (w2:W'<=40) (h1:1<=H') (h2:H'<=20):
 Calls Tryz.prog 90 #[.pointer (some ⟨bc,0,none⟩),.int .i64 W',.int .i64 H'] w λe w'=>∃g' cap',e=.returned (.tuple #[])/\Zp w' bc g' cap' W' H' (H'*W') (ZJ W H W' G)/\zd (λi=>i=bc) w w'/\w.heap.size<=g':=by
 have bl:=h.lt;have gl:=h.glt;have hw2:=h.w2;have hh2:=h.h2;have Hwf:=zH hwf;have hl0:=zH h;clear h hwf;obtain⟨N',hN'⟩:∃N',H'*W'=N':=⟨_,rfl⟩;rw[hN'];have HN':=zH hN'.symm;clear hN';go_in;go_wp2_with fail;go_at_call 74;refine(zg3 W' H' _ w1 w2 h1 h2).mono ?_;rintro e wm ⟨bd,gd,cd,rfl,hbd,hgd,Dm,Bm⟩;rw[←HN'.out] at Dm;have hNle:=Dm.nle;have HDm:=zH Dm;have nbg:=Dm.ne;clear Dm;go_wp2_with fail;go_loopw[7] (λi w'=>∃(y:Nat),y<=H'/\i=.int .i64 y/\Zp w' bc g cap W H N G/\Zp w' bd gd cd W' H' N' (cp W H G 0 y)/\Below w.heap.size w w') (λi _=>H'-(intOf i).toNat)
 case atStart=>exact⟨0,by omega,rfl,hl0.out.below Bm,by rw[zpu];exact HDm.out,Bm⟩
 case round=>
  obtain⟨y,hy,rfl,hC,hD,hB⟩:=hrel;have HC0:=zH hC;have HD0:=zH hD;have c1:=hC.c1;clear hC hD HDm Bm hl0;rcases(by omega:(y<H'/\y<H)\/(y<H'/\H<=y)\/H'<=y) with⟨a1,a2⟩|⟨a1,a2⟩|a1
  ·have a1':(y:Int)<H':=by omega
   have a2':(y:Int)<H:=by omega
   go_wp2_with fail;go_loopw[8] (λi w'=>∃(x:Nat),x<=W'/\i=.int .i64 x/\Zp w' bc g cap W H N G/\Zp w' bd gd cd W' H' N' (cp W H G x y)/\Below w.heap.size w w') (λi _=>W'-(intOf i).toNat)
   case atStart=>exact⟨0,by omega,rfl,HC0.out,HD0.out,hB⟩
   case round=>
    clear HC0 HD0 c1 hB;obtain⟨x,hx,rfl,hC,hD,hB⟩:=hrel;have c0:=hC.c0;rcases(by omega:(x<W'/\x<W)\/(x<W'/\W<=x)\/W'<=x) with⟨b1,b2⟩|⟨b1,b2⟩|b1
    ·have b1':(x:Int)<W':=by omega
     have b2':(x:Int)<W:=by omega
     have hl:y*W'+x<N':=by rw[HN'.out];exact zas b1 a1
     obtain⟨m,hm⟩:∃m,y*W'+x=m:=⟨_,rfl⟩;obtain⟨mm,hmm⟩:∃mm,y*W'=mm:=⟨_,rfl⟩;have Hm:=zH hm;rw[hm] at hl;rw[hmm] at hm;have hv1:IntKind.i64.wrap ((y:Int)*(W':Int))=(mm:Int):=by rw[←Int.natCast_mul,hmm];exact zm _ (by omega) (by omega)
     have hv2:IntKind.i64.wrap ((mm:Int)+(x:Int))=(m:Int):=by rw[zm _ (by omega) (by omega)];omega
     have hi1:(0:Int)<=(m:Int):=by omega
     have hi2:(m:Int)<(N':Int):=by omega
     clear hm hmm;have tgt:=hD.grid.cel x y b1 a1;rw[Hm.out] at tgt;obtain⟨t0,t1,t2,t3,t4,t5,t6⟩:=tgt;have fr:=hD.grid.free;have q2:=hD.c2;have lb:=hD.lt;have lg:=hD.glt;have ng1:gd≠bd:=λe=>nbg e.symm;have HC:=zH hC;have HD:=zH hD;clear hC hD;go_wp2_with fail;go_region_held3 (λw'=>w'.cell? ⟨bd,2,none⟩=some (.slice (some ⟨gd,0,none⟩) N' cd)/\(w'.cell? ⟨gd,m*7,none⟩).isSome=true/\(w'.cell? ⟨gd,m*7+1,none⟩).isSome=true/\(w'.cell? ⟨gd,m*7+2,none⟩).isSome=true/\(w'.cell? ⟨gd,m*7+3,none⟩).isSome=true/\(w'.cell? ⟨gd,m*7+4,none⟩).isSome=true/\(w'.cell? ⟨gd,m*7+5,none⟩).isSome=true/\(w'.cell? ⟨gd,m*7+6,none⟩).isSome=true/\(∀o,w'.frozen? ⟨gd,o,none⟩=false)) (simp[*,World.cell?_setCell_far,ZZ]) (first|(go_at_call 94;refine(zeo bc g cap W H N G x y _ HC.out.drew (by omega) (by omega) (by omega) (by omega)).mono ?_;rintro e w5 ⟨rfl,hb5⟩;simp only[Int.toNat_natCast];have e1:=hb5.cells lb;have e3:=hb5.cells lg;have e4:=hb5.marks lg));have hb5:=zL hb5;have D6:=(HD.out.below hb5).put b1 a1 (G x y);rw[Hm.out] at D6;have C6:Zp (put7 w5 gd (m*7) (G x y)) bc g cap W H N G:=(HC.out.below hb5).same (zW _ _ _ _ _ (by omega)) (zW _ _ _ _ _ (by omega));have B6:Below w.heap.size w (put7 w5 gd (m*7) (G x y)):=((zd.below (λi=>i=gd) (hB.trans (hb5.mono hB.size))).put7 _ _ _ (λ_=>rfl)).toBelow (Nat.le_refl _) (λi hi=>by omega);generalize hW6:put7 w5 gd (m*7) (G x y)=w6 at *;unfold put7 at hW6;rw[hW6];rename_i hS;clear hS hW6 e1 e3 e4 q2 t0 t1 t2 t3 t4 t5 t6 fr HC HD hB hb5;go_wp2_with fail;go_roundw
     case rel=>exact⟨x+1,by omega,by go_num,C6,D6.congr (ztU W H W' H' G x y b2 a2),B6⟩
     case measure=>simp[intOf];omega
    ·have b1':(x:Int)<W':=by omega
     have b2':(W:Int)<=x:=by omega
     have HC:=zH hC;have HD:=zH hD;clear hC hD;go_wp2_with fail;go_roundw
     case rel=>exact⟨y+1,by omega,by go_num,HC.out,HD.out.congr (zm8 W H W' H' G x y (by omega)),hB⟩
     case measure=>simp[intOf];omega
    ·have b1':(W':Int)<=x:=by omega
     have HC:=zH hC;have HD:=zH hD;clear hC hD;go_wp2_with fail;go_roundw
     case rel=>exact⟨y+1,by omega,by go_num,HC.out,HD.out.congr (zm8 W H W' H' G x y (by omega)),hB⟩
     case measure=>simp[intOf];omega
  ·have a1':(y:Int)<H':=by omega
   have a2':(H:Int)<=y:=by omega
   have hCa:=HD0.out.congr (zpv W H W' H' G y (by omega));have HCa:=zH hCa;clear hCa HD0;go_wp2_with fail;go_at_call 142;refine(ziD bd gd cd W' H' N' _ _ HCa.out (zkk Hwf.out)).mono ?_;rintro e w4 ⟨rfl,D4,K4⟩;have C4:=HC0.out.same (K4.block _ HC0.out.lt (by omega)) (K4.block _ HC0.out.glt (by omega));have B4:=hB.trans (K4.toBelow hB.size (λi hi=>by omega));have hbc:=C4.blk;have q0:=C4.c0;have q1:=C4.c1;have q2:=C4.c2;have fb:=ze hbc;have d2:=D4.c2;have l4:=C4.lt;have HD4:=zH D4;have Hbc:=zH hbc;have nbd:bc≠bd:=by omega
   clear C4 D4 K4 HCa hbc;go_wp2_with fail;go_end0;have K9:zd (λi=>i=bc) w (((w4.setCell ⟨bc,0,none⟩ (.int .i64 W')).setCell ⟨bc,1,none⟩ (.int .i64 H')).setCell ⟨bc,2,none⟩ (.slice (some ⟨gd,0,none⟩) N' cd)):=
    (((zd.below (λi=>i=bc) B4).setCell _ _ (λ_=>rfl)).setCell _ _ (λ_=>rfl)).setCell _ _ (λ_=>rfl)
   have hb9:=zg (zg (zg Hbc.out 0 (.int .i64 W')) 1 (.int .i64 H')) 2 (.slice (some ⟨gd,0,none⟩) N' cd);have hg9:(((w4.setCell ⟨bc,0,none⟩ (.int .i64 W')).setCell ⟨bc,1,none⟩ (.int .i64 H')).setCell ⟨bc,2,none⟩ (.slice (some ⟨gd,0,none⟩) N' cd)).heap[gd]?=w4.heap[gd]?:=by
    have hne:gd≠bc:=by omega
    rw[Below.heap_setCell _ _ _ _ hne,Below.heap_setCell _ _ _ _ hne,Below.heap_setCell _ _ _ _ hne]
   exact⟨gd,cd,rfl,⟨hb9,HD4.out.grid.same hg9,HN'.out,by omega,w1,w2,h1,h2⟩,K9,by omega⟩
  ·have a1':(H':Int)<=y:=by omega
   have hCa:=HD0.out.congr (zpv W H W' H' G y (by omega));have HCa:=zH hCa;clear hCa HD0;go_wp2_with fail;go_at_call 142;refine(ziD bd gd cd W' H' N' _ _ HCa.out (zkk Hwf.out)).mono ?_;rintro e w4 ⟨rfl,D4,K4⟩;have C4:=HC0.out.same (K4.block _ HC0.out.lt (by omega)) (K4.block _ HC0.out.glt (by omega));have B4:=hB.trans (K4.toBelow hB.size (λi hi=>by omega));have hbc:=C4.blk;have q0:=C4.c0;have q1:=C4.c1;have q2:=C4.c2;have fb:=ze hbc;have d2:=D4.c2;have l4:=C4.lt;have HD4:=zH D4;have Hbc:=zH hbc;have nbd:bc≠bd:=by omega
   clear C4 D4 K4 HCa hbc;go_wp2_with fail;go_end0;have K9:zd (λi=>i=bc) w (((w4.setCell ⟨bc,0,none⟩ (.int .i64 W')).setCell ⟨bc,1,none⟩ (.int .i64 H')).setCell ⟨bc,2,none⟩ (.slice (some ⟨gd,0,none⟩) N' cd)):=
    (((zd.below (λi=>i=bc) B4).setCell _ _ (λ_=>rfl)).setCell _ _ (λ_=>rfl)).setCell _ _ (λ_=>rfl)
   have hb9:=zg (zg (zg Hbc.out 0 (.int .i64 W')) 1 (.int .i64 H')) 2 (.slice (some ⟨gd,0,none⟩) N' cd);have hg9:(((w4.setCell ⟨bc,0,none⟩ (.int .i64 W')).setCell ⟨bc,1,none⟩ (.int .i64 H')).setCell ⟨bc,2,none⟩ (.slice (some ⟨gd,0,none⟩) N' cd)).heap[gd]?=w4.heap[gd]?:=by
    have hne:gd≠bc:=by omega
    rw[Below.heap_setCell _ _ _ _ hne,Below.heap_setCell _ _ _ _ hne,Below.heap_setCell _ _ _ _ hne]
   exact⟨gd,cd,rfl,⟨hb9,HD4.out.grid.same hg9,HN'.out,by omega,w1,w2,h1,h2⟩,K9,by omega⟩
end
end Go.Proofs.YtjlfibhbfdckpaaGreatDoor
