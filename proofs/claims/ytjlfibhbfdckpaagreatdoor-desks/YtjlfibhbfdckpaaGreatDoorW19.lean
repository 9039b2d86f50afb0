import Derived.Test.YtjlfibhbfdckpaaGreatDoorW18
namespace Go.Proofs.YtjlfibhbfdckpaaGreatDoor
set_option maxHeartbeats 64000000
set_option maxRecDepth 100000
section
open Go.RowKit
attribute [local go_sem ↓] Go.wp_at_zero Go.wp_at_succ
theorem zmp {w w':World} {b:Option Nat} (h:w.grownBy w' b):zd (λi=>b=some i) w w':=⟨h.os,h.tape,h.output,h.size,λi hi hF=>h.block i hi (λe=>hF e.symm)⟩
section
variable {R:Rm} {L:List Wn} {last:Int}
theorem zkP {c c':Int->Nat} {L:List Wn} (h:∀u∈L,c u.n=c' u.n):ZE c L=ZE c' L:=by
 induction L with
 |nil=>rfl
 |cons a t ih=>
  have e:∀(c:Int->Nat),ZE c (a::t)=zbC c a++ZE c t:=λc=>by simp[ZE]
  rw[e,e,ih (λu hu=>h u (List.mem_cons_of_mem _ hu))];unfold zbC;rw[h a List.mem_cons_self]
def Rm.more (R:Rm) (n:Int) (l:Value) (bc g cap:Nat):Rm:=⟨R.d,l,Zo R.c n bc,Zo R.g n g,Zo R.cap n cap⟩
theorem zoj {w w8:World} (ok:ZK L last) (h:Zq w R L last) (v:Wn) (x y:Int) (W H bc gg cc g7 cap7:Nat) (lc:w.heap.size<=bc) (lg:w.heap.size<=gg)
 (hd:w8.heap[R.d]?=some (.cells #[.slice (some ⟨g7,0,none⟩) (L.length+1) cap7,.int .i64 (last+1)] 110))
 (hr:w8.ownsRow 2 107 6 (.slice (some ⟨g7,0,none⟩) (L.length+1) cap7) (L.length+1) (ZE (Zo R.c (last+1) bc) (L ++ [⟨last+1,v.n,x,y,true,W,H,λ_ _=>blk Pn.plain⟩])))
 (hC:Zp w8 bc gg cc W H (H*W) (λ_ _=>blk Pn.plain)) (hg:R.l.ownBlock=some g7\/(w.heap.size<=g7/\g7≠bc/\g7≠gg)) (hk:zd (λi=>i=R.d\/R.l.ownBlock=some i) w w8) (r:Value):
 Zr R L (L ++ [⟨last+1,v.n,x,y,true,W,H,λ_ _=>blk Pn.plain⟩]) (last+1) w r (.returned r) w8:=by
 obtain⟨rk,K,T⟩:=ok.tree;obtain⟨nw,hnw⟩:∃nw:Wn,nw=⟨last+1,v.n,x,y,true,W,H,λ_ _=>blk Pn.plain⟩:=⟨_,rfl⟩;have hnn:nw.n=last+1:=by rw[hnw]
 rw[←hnw] at hr ⊢;have hle:∀u∈L,u.n≠last+1:=λu hu=>by have:=ok.le u hu;omega
 have hB:=h.two _ (zbp R L);have hlt:=h.lt (zbp R L);have hnl:L.length+1=(L ++ [nw]).length:=by simp
 have hold:∀p:Pl,p.okR (L ++ [nw])->¬((∃k,p=.win (last+1) k)\/p=.top 1)->p.okR L/\(R.more (last+1) (.slice (some ⟨g7,0,none⟩) (L.length+1) cap7) bc gg cc).blk p=R.blk p:=by
  intro p hp hf;cases p with
  |top k=>
   have hk2:k<2:=hp;match k,hk2 with
   |0,_=>exact⟨hp,rfl⟩
   |1,_=>exact absurd (.inr rfl) hf
  |win n k=>
   obtain⟨hk2,u,hu,hun⟩:=hp;have hn:n≠last+1:=λe=>hf (.inl ⟨k,by rw[e]⟩);have huL:u∈L:=by
    rcases List.mem_append.1 hu with hu|hu
    ·exact hu
    ·obtain rfl:u=nw:=by simpa using hu
     exact absurd (hun.symm.trans hnn) hn
   refine⟨⟨hk2,u,huL,hun⟩,?_⟩;match k,hk2 with
   |0,_=>simp[Rm.blk,Rm.more,zn _ _ hn]
   |1,_=>simp[Rm.blk,Rm.more,zn _ _ hn]
 have hfr:∀(p:Pl) (i:Nat),p.okR (L ++ [nw])->((∃k,p=.win (last+1) k)\/p=.top 1)->(R.more (last+1) (.slice (some ⟨g7,0,none⟩) (L.length+1) cap7) bc gg cc).blk p=some i->((p=.win (last+1) 0/\i=bc)\/(p=.win (last+1) 1/\i=gg)\/(p=.top 1/\i=g7)):=by
  rintro p i hp (⟨k,rfl⟩|rfl) e
  ·have hk2:=hp.1;match k,hk2 with
   |0,_=>exact .inl ⟨rfl,by simpa[Rm.blk,Rm.more,zD] using e.symm⟩
   |1,_=>exact .inr (.inl ⟨rfl,by simpa[Rm.blk,Rm.more,zD] using e.symm⟩)
  ·exact .inr (.inr ⟨rfl,by simpa[Rm.blk,Rm.more,Value.ownBlock] using e.symm⟩)
 have hne:=hC.ne;have hown:∀i,(R.more (last+1) (.slice (some ⟨g7,0,none⟩) (L.length+1) cap7) bc gg cc).own (L ++ [nw]) i->R.own L i\/w.heap.size<=i:=by
  rintro i ⟨p,hp,e⟩;by_cases hf:(∃k,p=.win (last+1) k)\/p=.top 1
  ·rcases hfr p i hp hf e with⟨_,r⟩|⟨_,r⟩|⟨_,r⟩
   ·exact .inr (by omega)
   ·exact .inr (by omega)
   ·rcases hg with q|q
    ·exact .inl (r ▸ zc1 R L q)
    ·exact .inr (by omega)
  ·obtain⟨a,b⟩:=hold p hp hf;exact .inl ⟨p,a,by rw[←b];exact e⟩
 refine⟨R.more (last+1) (.slice (some ⟨g7,0,none⟩) (L.length+1) cap7) bc gg cc,rfl,⟨hd,?_,?_,?_,?_,?_⟩,rfl,hk.mono (λi e=>e.elim (λe=>e ▸ zbp R L) (λe=>zc1 R L e)),hown⟩
 ·show w8.ownsRow _ _ _ (.slice (some ⟨g7,0,none⟩) (L.length+1) cap7) _ (ZE (Zo R.c (last+1) bc) _);rw[←hnl];exact hr
 ·intro u hu;show Zp w8 (Zo R.c (last+1) bc u.n) (Zo R.g (last+1) gg u.n) (Zo R.cap (last+1) cc u.n) u.W u.H (u.H*u.W) u.G;rcases List.mem_append.1 hu with hu|hu
  ·rw[zn _ _ (hle u hu),zn _ _ (hle u hu),zn _ _ (hle u hu)];have kk:=λk i hk2 e=>hk.block i (h.lt ⟨.win u.n k,⟨hk2,u,hu,rfl⟩,e⟩) (by
    rintro(e'|e')
    ·exact h.ne (p:=.win u.n k) (q:=.top 0) ⟨hk2,u,hu,rfl⟩ (show 0<2 by omega) e rfl (by simp) e'
    ·exact h.ne (p:=.win u.n k) (q:=.top 1) ⟨hk2,u,hu,rfl⟩ (show 1<2 by omega) e e' (by simp) rfl)
   exact(h.win u hu).same (kk 0 _ (by omega) rfl) (kk 1 _ (by omega) rfl)
  ·obtain rfl:u=nw:=by simpa using hu
   rw[hnn,zD,zD,zD,hnw];exact hC
 ·intro u hu;rcases List.mem_append.1 hu with hu|hu
  ·exact h.wf u hu
  ·obtain rfl:u=nw:=by simpa using hu
   rw[hnw];exact zep _ _
 ·intro p q i hp hq e1 e2;have key:∀p:Pl,p.okR (L ++ [nw])->(R.more (last+1) (.slice (some ⟨g7,0,none⟩) (L.length+1) cap7) bc gg cc).blk p=some i->(p.okR L/\p≠.top 1/\R.blk p=some i/\i<w.heap.size)\/(p=.win (last+1) 0/\i=bc)\/(p=.win (last+1) 1/\i=gg)\/(p=.top 1/\i=g7):=λp hp e=>by
   by_cases hf:(∃k,p=.win (last+1) k)\/p=.top 1
   ·exact .inr (hfr p i hp hf e)
   ·obtain⟨a,b⟩:=hold p hp hf;rw[b] at e;exact .inl ⟨a,λq=>hf (.inr q),e,h.lt ⟨p,a,e⟩⟩
  rcases key p hp e1 with⟨a1,a2,a3,a4⟩|⟨rfl,a⟩|⟨rfl,a⟩|⟨rfl,a⟩<;>rcases key q hq e2 with⟨b1,b2,b3,b4⟩|⟨rfl,b⟩|⟨rfl,b⟩|⟨rfl,b⟩
  ·exact h.inj p q i a1 b1 a3 b3
  ·omega
  ·omega
  ·rcases hg with q|q
   ·exact h.inj p (.top 1) i a1 (show 1<2 by omega) a3 (by rw[b];exact q)
   ·omega
  ·omega
  ·rfl
  ·omega
  ·exfalso;rcases hg with q|q
   ·have:=h.lt (zc1 R L q);omega
   ·omega
  ·omega
  ·omega
  ·rfl
  ·exfalso;rcases hg with q|q
   ·have:=h.lt (zc1 R L q);omega
   ·omega
  ·rcases hg with r|r
   ·exact h.inj (.top 1) q i (show 1<2 by omega) b1 (by rw[a];exact r) b3
   ·omega
  ·exfalso;rcases hg with q|q
   ·have:=h.lt (zc1 R L q);omega
   ·omega
  ·exfalso;rcases hg with q|q
   ·have:=h.lt (zc1 R L q);omega
   ·omega
  ·rfl
 ·intro i hi;rcases hown i hi with e|e
  ·exact h.two i e
  ·omega
theorem zqi (ok:ZK L last) (w:World) (h:Zq w R L last) (v:Wn) (j:Nat) (hj:L[j]?=some v) (hne:∀i u,i<j->L[i]?=some u->u.n≠v.n) (x y:Int) (W H':Nat) (hp:Zt x y=true) (hs:ZC W H'=true) (hlen:L.length<16) (hlast:last<9223372036854775807) (hl0:0<=last):
 Calls Tryz.prog 96 #[.pointer (some ⟨R.d,0,none⟩),.int .i64 v.n,.int .i64 x,.int .i64 y,.int .i64 W,.int .i64 H'] w (Zr R L (L ++ [⟨last+1,v.n,x,y,true,W,H',λ_ _=>blk Pn.plain⟩]) (last+1) w (.tuple #[.int .i64 (last+1),.int .i64 0])):=by
 have HR:=zH h;have H:=zH<|zbq ok w h v j hj hne
 have d0:=h.d0;have d1:=h.d1;obtain⟨g,cap,hl,hw,hfz,_⟩:=h.sl ok.one;rw[hl] at d0;have fz:=ze h.blk;have hj1:¬(j:Int)<0:=by omega
 have hlen':¬(16:Int)<=(L.length:Int):=by omega
 have hz:=Zs.1 hs;have sl:IntKind.i64.wrap (last+1)=last+1:=zm _ (by omega) (by omega);clear h hw hj hne;go_in;go_wp2_with (first|(go_at_call 79;refine sM H.out ?_)|(go_at_call 80;refine sM (zbk _ _ _) ?_)|(go_at_call 73;refine sM (zbv _ _ _) ?_));have hbs:(w.setCell ⟨R.d,1,none⟩ (.int .i64 (last+1))).heap[R.d]?=some (.cells #[R.l,.int .i64 (last+1)] 110):=zg HR.out.blk 1 _;have hks:zd (λi=>i=R.d) w (w.setCell ⟨R.d,1,none⟩ (.int .i64 (last+1))):=(zd.refl _ _).setCell _ _ (λ_=>rfl);generalize w.setCell ⟨R.d,1,none⟩ (.int .i64 (last+1))=ws at *;have d0s:ws.cell? ⟨R.d,0,none⟩=some (.slice (some ⟨g,0,none⟩) L.length cap):=by rw[za hbs 0,hl];rfl
 have d1s:ws.cell? ⟨R.d,1,none⟩=some (.int .i64 (last+1)):=za hbs 1;have fzs:=ze hbs;have hbl:=(Array.getElem?_eq_some_iff.1 hbs).1;have hgl:R.l.ownBlock=some g:=by rw[hl];rfl
 have hgd:=HR.out.ne (p:=.top 1) (q:=.top 0) (show 1<2 by omega) (show 0<2 by omega) hgl rfl (by simp);have Hrow:Hid (ws.ownsRow 2 107 6 (.slice (some ⟨g,0,none⟩) L.length cap) L.length (ZE R.c L)):=by
  have:=zx HR.out.row (w':=ws) (λi hi=>hks.block _ (HR.out.lt (zc1 R L hi)) (λe=>by rw[hgl] at hi;injection hi with hi;omega));rw[hl] at this;exact this
 have Hbs:=zH hbs;have Hks:=zH hks;have hB2:=HR.out.two _ (zbp R L);have Hl:=zH hl;clear hbs hks d0 d1 fz;go_region_law (first|(go_simp;go_at_call 74;refine(zg3 W H' _ (by omega) (by omega) (by omega) (by omega)).mono ?_;rintro e w5 ⟨bc,gg,cc,rfl,lc,lg,C5,hb5⟩;have hb6:=zL hb5;have e1:=hb6.cells hbl;have e2:=hb6.marks hbl;have HC5:=zH<|C5;have Hlc:Hid (ws.heap.size<=bc/\ws.heap.size<=gg):=⟨lc,lg⟩;have Hb6:=zH<|hb6;have Hr6:Hid (w5.ownsRow 2 107 6 (.slice (some ⟨g,0,none⟩) L.length cap) L.length (ZE (Zo R.c (last+1) bc) L)):=(by show World.ownsRow _ _ _ _ _ _ _;rw[←zkP (c:=R.c) (λu hu=>(zn R.c bc (by have:=ok.le u hu;omega)).symm)];exact zx Hrow.out (λi hi=>hb6.block _ (Hrow.out.lt i hi).2));have l6:=Nat.lt_of_lt_of_le hbl hb6.size;clear hb5 C5 lc lg hb6)|(refine zgV _ (by rfl) (.tmp 49) (.tmp 61) (by rfl) 2 (.slice (some ⟨g,0,none⟩) L.length cap) (Zo R.c (last+1) bc) L ⟨last+1,v.n,x,y,true,W,H',λ_ _=>blk Pn.plain⟩ L.length rfl (by simp[Act.eval]) (zx Hr6.out (λi hi=>Below.heap_alloc _ _ _ (Hr6.out.lt i hi).2)) w5.heap.size (by simp[Act.eval]) (by rw[show Zo R.c (last+1) bc (last+1)=bc from zD _ _ _];exact zf w5 _) (by omega) (by simp;omega) ?_;intro g7 cap7 w7 hr7 hg7 ho7 hl7;have hbk:=(hg7.block _ (by simp;omega) (λe=>hgd (by injection e with e;exact e.symm))).trans ((Below.heap_alloc _ _ _ l6).trans ((Hb6.out.block _ hbl).trans Hbs.out));have c7:w7.cell? ⟨R.d,0,none⟩=some R.l:=(za hbk 0);have f7:=ze hbk 0));all_goals
  have hz5:w5.heap.size<w7.heap.size:=by have:=hg7.size;simp at this;omega
  have K7:zd (λi=>i=R.d\/R.l.ownBlock=some i) w (w7.setCell ⟨R.d,0,none⟩ (.slice (some ⟨g7,0,none⟩) (L.length+1) cap7)):=by
   have k5:zd (λi=>i=R.d\/R.l.ownBlock=some i) w (w5.alloc (.cells (zdF ⟨last+1,v.n,x,y,true,W,H',λ_ _=>blk Pn.plain⟩ bc) 107)):=((Hks.out.mono (λi e=>.inl e)).trans (zd.below _ Hb6.out) (λ_ _ q=>q)).trans (zd.below _ ((Below.refl _ _).alloc (Nat.le_refl _) _)) (λ_ _ q=>q);refine(k5.trans (zmp hg7) (λi _ e=>.inr ?_)).setCell _ _ (λ_=>.inl rfl);rw[hgl];exact e
  have HP:Hid (Zr R L (L ++ [⟨last+1,v.n,x,y,true,W,H',λ_ _=>blk Pn.plain⟩]) (last+1) w (.tuple #[.int .i64 (last+1),.int .i64 0]) (.returned (.tuple #[.int .i64 (last+1),.int .i64 0])) (w7.setCell ⟨R.d,0,none⟩ (.slice (some ⟨g7,0,none⟩) (L.length+1) cap7))):=by
   have zs:=Hks.out.size;have z5:=Hb6.out.size;have hlc:=Hlc.out;have lt1:=HC5.out.lt;have lt2:=HC5.out.glt;have cs:∀i,i<w5.heap.size->i≠R.d->i≠g->(w7.setCell ⟨R.d,0,none⟩ (.slice (some ⟨g7,0,none⟩) (L.length+1) cap7)).heap[i]?=w5.heap[i]?:=λi hi n1 n2=>by
    rw[Below.heap_setCell _ _ _ _ n1,hg7.block _ (by simp;omega) (λe=>n2 (by injection e with e)),Below.heap_alloc _ _ _ hi]
   have hgw:=HR.out.lt (zc1 R L hgl);refine zoj ok HR.out v x y W H' bc gg cc g7 cap7 (by omega) (by omega) ?_ ?_ (HC5.out.same (cs _ lt1 (by omega) (by omega)) (cs _ lt2 (by omega) (by omega))) ?_ K7 _
   ·exact zg hbk 0 _
   ·refine zx hr7 (λi hi=>Below.heap_setCell _ _ _ _ ?_);injection hi with hi;have hi':g7=i:=hi;rcases ho7 with e|e
    ·injection e with e;have e':g=g7:=e;show i≠R.d;omega
    ·simp at e;show i≠R.d;omega
   ·rcases ho7 with e|e
    ·exact .inl (by rw[hgl];exact e)
    ·simp at e;exact .inr ⟨by omega,by omega,by omega⟩
  have d1w:(w7.setCell ⟨R.d,0,none⟩ (.slice (some ⟨g7,0,none⟩) (L.length+1) cap7)).cell? ⟨R.d,1,none⟩=some (.int .i64 (last+1)):=za (zg hbk 0 (.slice (some ⟨g7,0,none⟩) (L.length+1) cap7)) 1;generalize w7.setCell ⟨R.d,0,none⟩ (.slice (some ⟨g7,0,none⟩) (L.length+1) cap7)=w8 at *;clear hr7 hg7 ho7 hl7 hbk c7 f7 e1 e2 K7 hz5 d0s d1s fzs;go_wp2_with fail;go_ret2;exact HP.out
end
theorem zso (x y:Int) (w:World) (hs:ZC x y=false):
 Calls Tryz.prog 29 #[.int .i64 x,.int .i64 y] w λe w'=>e=.returned (.pointer none)/\w'=w:=by
 go_in;go_wp2_with (first|(go_at_call 73;refine sM (zbv _ _ _) ?_));go_ret;exact⟨rfl,rfl⟩
theorem zvH (W H:Nat) (w:World) (hs:ZC W H=true) (hw:2<=w.heap.size):
 Calls Tryz.prog 29 #[.int .i64 W,.int .i64 H] w λe w'=>∃R:Rm,e=.returned (.pointer (some ⟨R.d,0,none⟩))/\Zq w' R [Zd W H] 0/\Below w.heap.size w w'/\∀i,R.own [Zd W H] i->w.heap.size<=i:=by
 have hz:=Zs.1 hs;go_in;go_wp2_with (first|(go_at_call 73;refine sM (zbv _ _ _) ?_));go_at_call 74;refine(zg3 W H _ (by omega) (by omega) (by omega) (by omega)).mono ?_;rintro e w1 ⟨bc,g,cap,rfl,lc,lg,C1,b1⟩;have HC:=zH C1;have HB:=zH b1;have lt1:=C1.lt;have lt2:=C1.glt;have hne:=C1.ne;have s1:=b1.size;clear C1 b1;have HP:Hid (∃R:Rm,Ending.returned (.pointer (some ⟨w1.heap.size+1,0,none⟩))=.returned (.pointer (some ⟨R.d,0,none⟩))/\Zq ((w1.alloc (.cells #[.int .i64 0,.int .i64 (-1),.int .i64 0,.int .i64 0,.bool true,.pointer (some ⟨bc,0,none⟩)] 107)).alloc (.cells #[.slice (some ⟨w1.heap.size,0,none⟩) 1 1,.int .i64 0] 110)) R [Zd W H] 0/\Below w.heap.size w ((w1.alloc (.cells #[.int .i64 0,.int .i64 (-1),.int .i64 0,.int .i64 0,.bool true,.pointer (some ⟨bc,0,none⟩)] 107)).alloc (.cells #[.slice (some ⟨w1.heap.size,0,none⟩) 1 1,.int .i64 0] 110))/\∀i,R.own [Zd W H] i->w.heap.size<=i):=by
  have bA:Below w1.heap.size w1 ((w1.alloc (.cells #[.int .i64 0,.int .i64 (-1),.int .i64 0,.int .i64 0,.bool true,.pointer (some ⟨bc,0,none⟩)] 107)).alloc (.cells #[.slice (some ⟨w1.heap.size,0,none⟩) 1 1,.int .i64 0] 110)):=((Below.refl _ _).alloc (Nat.le_refl _) _).alloc (by simp) _;have hb0:((w1.alloc (.cells #[.int .i64 0,.int .i64 (-1),.int .i64 0,.int .i64 0,.bool true,.pointer (some ⟨bc,0,none⟩)] 107)).alloc (.cells #[.slice (some ⟨w1.heap.size,0,none⟩) 1 1,.int .i64 0] 110)).heap[w1.heap.size]?=some (.cells #[.int .i64 0,.int .i64 (-1),.int .i64 0,.int .i64 0,.bool true,.pointer (some ⟨bc,0,none⟩)] 107):=by
   rw[Below.heap_alloc _ _ _ (by simp)];exact zf w1 _
  have hb1:((w1.alloc (.cells #[.int .i64 0,.int .i64 (-1),.int .i64 0,.int .i64 0,.bool true,.pointer (some ⟨bc,0,none⟩)] 107)).alloc (.cells #[.slice (some ⟨w1.heap.size,0,none⟩) 1 1,.int .i64 0] 110)).heap[w1.heap.size+1]?=some (.cells #[.slice (some ⟨w1.heap.size,0,none⟩) 1 1,.int .i64 0] 110):=by
   have:=zf (w1.alloc (.cells #[.int .i64 0,.int .i64 (-1),.int .i64 0,.int .i64 0,.bool true,.pointer (some ⟨bc,0,none⟩)] 107)) (.cells #[.slice (some ⟨w1.heap.size,0,none⟩) 1 1,.int .i64 0] 110);rw[size_alloc] at this;exact this
  generalize (w1.alloc (.cells #[.int .i64 0,.int .i64 (-1),.int .i64 0,.int .i64 0,.bool true,.pointer (some ⟨bc,0,none⟩)] 107)).alloc (.cells #[.slice (some ⟨w1.heap.size,0,none⟩) 1 1,.int .i64 0] 110)=w3 at *;have own:∀(p:Pl) (i:Nat),p.okR [Zd W H]->Rm.blk ⟨w1.heap.size+1,.slice (some ⟨w1.heap.size,0,none⟩) 1 1,λ_=>bc,λ_=>g,λ_=>cap⟩ p=some i->(p=.top 0/\i=w1.heap.size+1)\/(p=.top 1/\i=w1.heap.size)\/(p=.win 0 0/\i=bc)\/(p=.win 0 1/\i=g):=by
   intro p i hp e;cases p with
   |top k=>
    have hk:k<2:=hp;match k,hk with
    |0,_=>exact .inl ⟨rfl,by simpa[Rm.blk] using e.symm⟩
    |1,_=>exact .inr (.inl ⟨rfl,by simpa[Rm.blk,Value.ownBlock] using e.symm⟩)
   |win n k=>
    obtain⟨hk,v,hv,e'⟩:=hp;obtain rfl:v=Zd W H:=by simpa using hv
    obtain rfl:(0:Int)=n:=e';match k,hk with
    |0,_=>exact .inr (.inr (.inl ⟨rfl,by simpa[Rm.blk] using e.symm⟩))
    |1,_=>exact .inr (.inr (.inr ⟨rfl,by simpa[Rm.blk] using e.symm⟩))
  refine⟨⟨w1.heap.size+1,.slice (some ⟨w1.heap.size,0,none⟩) 1 1,λ_=>bc,λ_=>g,λ_=>cap⟩,rfl,⟨hb1,?_,?_,?_,?_,?_⟩,HB.out.trans (bA.mono s1),?_⟩
  ·exact⟨rfl,.inr ⟨w1.heap.size,1,_,rfl,by omega,hb0,Nat.le_refl _,by decide,rfl,rfl⟩⟩
  ·intro v hv;obtain rfl:v=Zd W H:=by simpa using hv
   exact HC.out.below bA
  ·intro v hv;obtain rfl:v=Zd W H:=by simpa using hv
   exact zep _ _
  ·intro p q i hp hq e1 e2;rcases own p i hp e1 with⟨rfl,a⟩|⟨rfl,a⟩|⟨rfl,a⟩|⟨rfl,a⟩<;>rcases own q i hq e2 with⟨rfl,b⟩|⟨rfl,b⟩|⟨rfl,b⟩|⟨rfl,b⟩<;>first|rfl|(exfalso;omega)
  ·rintro i ⟨p,hp,e⟩;rcases own p i hp e with⟨_,a⟩|⟨_,a⟩|⟨_,a⟩|⟨_,a⟩<;>omega
  ·rintro i ⟨p,hp,e⟩;rcases own p i hp e with⟨_,a⟩|⟨_,a⟩|⟨_,a⟩|⟨_,a⟩<;>omega
 go_wp2_with fail;go_ret;exact HP.out
section
variable {R:Rm} {L:List Wn} {last:Int}
def cnd (n x y:Int) (u:Wn):Bool:=decide (u.par=n)&&hit x y u
def Nxt (L:List Wn) (n x y:Int) (nx k:Nat):Prop:=
 (nx=0/\∀(i:Nat) (v:Wn),i<k->L[i]?=some v->cnd n x y v=false)\/(1<=nx/\∃v,L[nx]?=some v/\cnd n x y v=true/\∀(i:Nat) (u:Wn),nx<i->i<k->L[i]?=some u->cnd n x y u=false)
theorem Nxt.skip {n x y:Int} {nx k:Nat} {v:Wn} (h:Nxt L n x y nx k) (hv:L[k]?=some v) (hc:cnd n x y v=false):Nxt L n x y nx (k+1):=by
 rcases h with⟨e,h⟩|⟨e,u,hu,hcu,h⟩
 ·refine .inl ⟨e,λi u hi hu=>?_⟩;by_cases hik:i=k
  ·subst hik;rw[hv] at hu;injection hu with hu;rw[←hu];exact hc
  ·exact h i u (by omega) hu
 ·refine .inr ⟨e,u,hu,hcu,λi z hi hi2 hz=>?_⟩;by_cases hik:i=k
  ·subst hik;rw[hv] at hz;injection hz with hz;rw[←hz];exact hc
  ·exact h i z hi (by omega) hz
theorem Nxt.take {n x y:Int} {nx k:Nat} {v:Wn} (_h:Nxt L n x y nx k) (hk:1<=k) (hv:L[k]?=some v) (hc:cnd n x y v=true):Nxt L n x y k (k+1):=
 .inr ⟨hk,v,hv,hc,λi u h1 h2=>by omega⟩
theorem Nxt.none {n x y:Int} (h:Nxt L n x y 0 L.length):zcw L n x y=none:=by
 rcases h with⟨_,h⟩|⟨e,_⟩
 ·rw[zkC];exact zfF L (λk v hv=>h k v (List.getElem?_eq_some_iff.1 hv).1 hv)
 ·omega
theorem Nxt.some {n x y:Int} {nx:Nat} (h:Nxt L n x y nx L.length) (h1:nx≠0):∃v,L[nx]?=some v/\zcw L n x y=some v:=by
 rcases h with⟨e,_⟩|⟨_,v,hv,hc,h⟩
 ·exact absurd e h1
 ·refine⟨v,hv,?_⟩;rw[zkC];exact zjK L nx v hv hc (λk u hk hu=>h k u hk (List.getElem?_eq_some_iff.1 hu).1 hu)
def zmq (L:List Wn) (rk:Int->Nat) (i:Value):Nat:=rk ((L[(intOf i).toNat]?.map Wn.n).getD 0)
theorem zjO {rk:Int->Nat} {K:Nat} (T:ZR L rk K) (ok:ZK L last) (w:World) (h:Zq w R L last) (r:Wn) (hr:L[0]?=some r) (x y:Int) (hin:inG r.W r.H x y=true):
 Calls Tryz.prog 93 #[.pointer (some ⟨R.d,0,none⟩),.int .i64 x,.int .i64 y] w λe w'=>∃j:Nat,e=.returned (.tuple #[.int .i64 j,.int .i64 (zaf L K r x y).2.1,.int .i64 (zaf L K r x y).2.2])/\L[j]?=some (zaf L K r x y).1/\Below w.heap.size w w':=by
 have HT:=zH T;have HR:=zH h;have Hok:=zH ok;have h16:=ok.len;obtain⟨g,cap,hl,hw,hfz,_⟩:=h.sl ok.one;have Hl:=zH hl;clear h T hw hl hfz;go_in;go_wp2_with fail;go_loopw[1,2,9] (λxv yv iv w'=>∃(i f:Nat) (u:Wn) (X Y:Int),xv=.int .i64 X/\yv=.int .i64 Y/\iv=.int .i64 i/\L[i]?=some u/\K<=rk u.n+f/\zaf L f u X Y=zaf L K r x y/\inG u.W u.H X Y=true/\Below w.heap.size w w') (λ_ _ iv _=>K-zmq L rk iv)
 case atStart=>exact⟨0,K,r,x,y,rfl,rfl,rfl,hr,by omega,rfl,hin,Below.refl _ _⟩
 case round=>
  obtain⟨i,f,u,X,Y,rfl,rfl,rfl,hi,hf,ho,hiG,hB⟩:=hrel;have hu:=List.mem_of_getElem? hi;have un0:=HT.out.pos hu;have hil:=(List.getElem?_eq_some_iff.1 hi).1;have hil':(i:Int)<(L.length:Int):=by omega
  have hW:=(HR.out.win u hu).w2;have hH:=(HR.out.win u hu).h2;have hbX:=zu.1 hiG;have hX0:=hbX.1;have hX1:X<40:=by omega
  have hY0:=hbX.2.2.1;have hY1:Y<20:=by omega
  have Hi:=zH hi;have Hf:=zH hf;have Ho:=zH ho;have HiG:=zH hiG;clear hi hf ho hiG hbX hW hH;have hroot:Hid (cnd u.n X Y r=false):=by
   show _=_;obtain⟨r',t,e,h0,h1,_⟩:=HT.out.head;rw[e] at hr;obtain rfl:r'=r:=by simpa using hr
   unfold cnd;rw[decide_eq_false (by omega)];rfl
  have hone:=Hok.out.one;go_wp2_with fail;go_loopw[10,11] (λnv kv w'=>∃nx k:Nat,nv=.int .i64 nx/\kv=.int .i64 k/\1<=k/\k<=L.length/\nx<k/\Nxt L u.n X Y nx k/\Below w.heap.size w w') (λ_ kv _=>20-(intOf kv).toNat)
  case atStart=>
   refine⟨0,1,rfl,rfl,by omega,hone,by omega,.inl ⟨rfl,λi v hi hv=>?_⟩,hB⟩;obtain rfl:i=0:=by omega
   rw[hr] at hv;injection hv with e;rw[←e];exact hroot.out
  case round=>
   clear hB;obtain⟨nx,k,rfl,rfl,hk1,hkl,hnk,hN,hB⟩:=hrel;have HN:=zH hN;have hRr:=HR.out.below hB;have HRr:=zH hRr;obtain⟨g',cap',hl',hw',_,_⟩:=hRr.sl Hok.out.one;obtain⟨rfl,rfl⟩:g=g'/\cap=cap':=by have:=Hl.out.symm.trans hl';simpa using this
   have d0:=hRr.d0;rw[hl'] at d0;obtain⟨i0,i1,i2,i3,i4,i5⟩:=hw' i u Hi.out;by_cases hlt:k<L.length
   ·have hlt':(k:Int)<(L.length:Int):=by omega
    obtain⟨v,hv⟩:∃v,L[k]?=some v:=⟨_,List.getElem?_eq_getElem hlt⟩;have hvL:=List.mem_of_getElem? hv;have Hv:=zH hv;obtain⟨c0,c1,c2,c3,c4,c5⟩:=hw' k v hv;obtain⟨x0,x1,y0,y1⟩:=Hok.out.pl v hvL;have sx:IntKind.i64.wrap (X-v.x)=X-v.x:=zm _ (by omega) (by omega);have sy:IntKind.i64.wrap (Y-v.y)=Y-v.y:=zm _ (by omega) (by omega);have e0:=(hRr.win v hvL).c0;have e1:=(hRr.win v hvL).c1;have bl:=(hRr.win v hvL).lt;clear hRr hw' hl' hv hN;go_wp2_with fail;go_at_call 92;refine sM (zbQ (R.c v.n) v.W v.H (X-v.x) (Y-v.y) _ (by rw[((Below.refl wr.heap.size wr).alloc (Nat.le_refl _) _).cell (p:=⟨R.c v.n,0,none⟩) bl];exact e0) (by rw[((Below.refl wr.heap.size wr).alloc (Nat.le_refl _) _).cell (p:=⟨R.c v.n,1,none⟩) bl];exact e1)) ?_;have hB2:Below w.heap.size w (wr.alloc (.cells #[.int .i64 v.n,.int .i64 v.par,.int .i64 v.x,.int .i64 v.y,.bool v.sh,.pointer (some ⟨R.c v.n,0,none⟩)] 107)):=hB.trans (((Below.refl _ _).alloc (Nat.le_refl _) _).mono hB.size);have bq:Below wr.heap.size wr (wr.alloc (.cells #[.int .i64 v.n,.int .i64 v.par,.int .i64 v.x,.int .i64 v.y,.bool v.sh,.pointer (some ⟨R.c v.n,0,none⟩)] 107)):=(Below.refl _ _).alloc (Nat.le_refl _) _;have hnq:=zf wr (.cells #[.int .i64 v.n,.int .i64 v.par,.int .i64 v.x,.int .i64 v.y,.bool v.sh,.pointer (some ⟨R.c v.n,0,none⟩)] 107);have q1:=za hnq 1;have q4:=za hnq 4;have d0q:=(bq.cell (p:=⟨R.d,0,none⟩) (World.block_lt_of_cell? _ _ d0)).trans d0;have i0q:=(bq.cell (p:=⟨g,i*6,none⟩) (World.block_lt_of_cell? _ _ i0)).trans i0;simp only[List.getElem?_toArray,List.getElem?_cons_succ,List.getElem?_cons_zero] at q1 q4;generalize (wr.alloc (.cells #[.int .i64 v.n,.int .i64 v.par,.int .i64 v.x,.int .i64 v.y,.bool v.sh,.pointer (some ⟨R.c v.n,0,none⟩)] 107))=wq at *;clear e0 e1 bl c5 c2 c3 bq hnq d0 i0 c0 c1 c4;by_cases hp:v.par=u.n
    ·have hpb:(v.par==u.n)=true:=by simpa using hp
     cases hsh:v.sh with
     |false=>
      have Hc:Hid (cnd u.n X Y v=false):=by show _=_;simp[cnd,hit,hsh]
      rw[hsh] at q4;clear hp;go_wp2_with fail;go_quiet (fail);go_wp2_with fail;go_roundw
      case rel=>exact⟨nx,k+1,rfl,by simp,by omega,by omega,by omega,HN.out.skip Hv.out Hc.out,hB2.trans ((Zc _ nq).mono hB2.size)⟩
      case measure=>simp[intOf];omega
     |true=>
      rw[hsh] at q4;cases hi:inG v.W v.H (X-v.x) (Y-v.y) with
      |false=>
       have Hc:Hid (cnd u.n X Y v=false):=by show _=_;simp[cnd,hit,hi]
       clear hp;go_wp2_with fail;go_quiet (fail);go_wp2_with fail;go_roundw
       case rel=>exact⟨nx,k+1,rfl,by simp,by omega,by omega,by omega,HN.out.skip Hv.out Hc.out,hB2.trans ((Zc _ nq).mono hB2.size)⟩
       case measure=>simp[intOf];omega
      |true=>
       have Hc:Hid (cnd u.n X Y v=true):=by show _=_;simp[cnd,hit,hi,hsh,hp]
       clear hp;go_wp2_with fail;go_quiet (fail);go_wp2_with fail;go_roundw
       case rel=>exact⟨k,k+1,rfl,by simp,by omega,by omega,by omega,HN.out.take hk1 Hv.out Hc.out,hB2.trans ((Zc _ nq).mono hB2.size)⟩
       case measure=>simp[intOf];omega
    ·have hpb:(v.par==u.n)=false:=by simpa using hp
     have Hc:Hid (cnd u.n X Y v=false):=by show _=_;simp[cnd,hp]
     clear hp;go_wp2_with fail;go_quiet (fail);go_wp2_with fail;go_roundw
     case rel=>exact⟨nx,k+1,rfl,by simp,by omega,by omega,by omega,HN.out.skip Hv.out Hc.out,hB2.trans ((Zc _ nq).mono hB2.size)⟩
     case measure=>simp[intOf];omega
   ·have hlt':¬(k:Int)<(L.length:Int):=by omega
    obtain rfl:k=L.length:=by omega
    by_cases hn0:nx=0
    ·subst hn0;have HE:Hid (zaf L K r x y=(u,X,Y)):=by
      show _=_;rw[←Ho.out,HT.out.ownSucc hu Hf.out,HN.out.none]
     clear hRr hw' hl' hN;go_wp2_with fail;exact bodyPost_ret (v:=.tuple #[.int .i64 i,.int .i64 X,.int .i64 Y]) (by simp[results,Tryz.results93,go_sem]) rfl (by rw[HE.out];exact⟨i,rfl,Hi.out,hB⟩)
    ·obtain⟨v,hv,hnx⟩:=HN.out.some hn0;have hn0':¬(nx:Int)=0:=by omega
     have hvL:=List.mem_of_getElem? hv;have hnl:=(List.getElem?_eq_some_iff.1 hv).1;have hnl':(nx:Int)<(L.length:Int):=by omega
     obtain⟨c0,c1,c2,c3,c4,c5⟩:=hw' nx v hv;obtain⟨x0,x1,y0,y1⟩:=Hok.out.pl v hvL;have sx:IntKind.i64.wrap (X-v.x)=X-v.x:=zm _ (by omega) (by omega);have sy:IntKind.i64.wrap (Y-v.y)=Y-v.y:=zm _ (by omega) (by omega);obtain⟨_,hvp,_,hvi⟩:=zcX hnx;have hrk:=(HT.out.up v hvL (by omega)).2;rw[hvp] at hrk;have hrK:=HT.out.le v hvL;have hf':=Hf.out;have HF:Hid (∃(i f:Nat) (u:Wn) (X' Y':Int),Value.int .i64 (X-v.x)=.int .i64 X'/\Value.int .i64 (Y-v.y)=.int .i64 Y'/\Value.int .i64 nx=.int .i64 i/\L[i]?=some u/\K<=rk u.n+f/\zaf L f u X' Y'=zaf L K r x y/\inG u.W u.H X' Y'=true/\Below w.heap.size w wr):=
      ⟨nx,f-1,v,X-v.x,Y-v.y,rfl,rfl,rfl,hv,by omega,by rw[←Ho.out,HT.out.ownSucc hu Hf.out,hnx],hvi,hB⟩
     have HM:Hid (K-zmq L rk (.int .i64 nx)<K-zmq L rk (.int .i64 i)):=by
      have e1:zmq L rk (.int .i64 nx)=rk v.n:=by simp[zmq,intOf,hv]
      have e2:zmq L rk (.int .i64 i)=rk u.n:=by simp[zmq,intOf,Hi.out]
      show _<_;rw[e1,e2];omega
     clear hRr hw' hl' hN hv hnx hvp hvi hrk hrK hf' c0 c1 c4 c5;go_wp2_with fail;go_roundw
     case rel=>exact HF.out
     case measure=>exact HM.out
end
end
end Go.Proofs.YtjlfibhbfdckpaaGreatDoor
