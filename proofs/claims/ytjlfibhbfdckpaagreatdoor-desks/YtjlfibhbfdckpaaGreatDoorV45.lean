import Derived.Test.YtjlfibhbfdckpaaGreatDoorV42
import Derived.Test.YtjlfibhbfdckpaaGreatDoorV44
import Derived.Shelf.SlicesE.Clone
import Derived.Deep.WholeRow
namespace Go.Proofs.YtjlfibhbfdckpaaGreatDoor
set_option maxHeartbeats 64000000
set_option maxRecDepth 100000
section
open Go.RowKit Go.Shelf
attribute [local go_sem ↓] Go.wp_at_zero Go.wp_at_succ
def zwh:Go.Shelf.Ren:=⟨fun|41=>214|n=>n,fun|22=>120|23=>38|4=>4|n=>n,fun|n=>n⟩
theorem zwi:Go.Proofs.SlLaysE0.n41 Tryz.prog zwh:={
 mixed:=by kernel_rfl
 f41:=⟨Tryz.f214.name,by decide,Tryz.func214.trans (congrArg some (by kernel_rfl))⟩
 t4:=Tryz.underlying4
 a4:=Tryz.isAgg4
 z4:=Tryz.sizeOf4
 v4:=Tryz.zeroValue4
 t22:=Tryz.underlying120
 a22:=Tryz.isAgg120
 z22:=Tryz.sizeOf120
 v22:=Tryz.zeroValue120}
theorem zlC (g n cap:Nat) (M:Nat->zk) (w:World) (h:zay w g n M) (hn:n<=800) (h1:1<=n):
 Calls Tryz.prog 214 #[.slice (some ⟨g,0,none⟩) n cap] w λe w'=>∃g' cap',e=.returned (.slice (some ⟨g',0,none⟩) n cap')/\n<=cap'/\w.heap.size<=g'/\zay w' g' n M/\Below w.heap.size w w':=by
 obtain⟨i0,i1,i2,i3,i4⟩:=zeS;have hfl:(flat (zbT M 0 n)).length=n*7:=by rw[zde,zbU]
 refine(Go.Proofs.AnyE.slices_Clone zwi i0 _ 7 40 i1 i2 i3 i4 rfl (by decide) Tryz.sizeOf38 g 0 n cap (flat (zbT M 0 n)) w hfl (by unfold maxLen;omega) (by omega) ?_ ?_).mono ?_
 ·intro j u hj;obtain⟨c,hc,hv⟩:=zks _ _ _ hj;have hlt:j/7<n:=by have:=(List.getElem?_eq_some_iff.1 hc).1;rw[zbU] at this;exact this
  rw[zfB _ _ _ _ hlt] at hc;obtain rfl:M (0+j/7)=c:=by simpa using hc
  rw[Nat.zero_add] at hv;obtain⟨a0,a1,a2,a3,a4,a5,a6⟩:=h.cel (j/7) hlt;have hj7:j=j/7*7+j%7:=by omega
  rw[Nat.zero_add,hj7];have hm:j%7<7:=Nat.mod_lt _ (by omega);generalize j%7=q at *;match q,hm with
  |0,_=>simpa using a0.trans hv
  |1,_=>simpa using a1.trans hv
  |2,_=>simpa using a2.trans hv
  |3,_=>simpa using a3.trans hv
  |4,_=>simpa using a4.trans hv
  |5,_=>simpa using a5.trans hv
  |6,_=>simpa using a6.trans hv
 ·intro u hu;obtain⟨c,_,hc⟩:=List.mem_flatMap.1 hu;exact zhi c u hc
 ·rintro e w' ⟨v',rfl,hown,_,hb⟩;have hown':w'.ownsRow w.heap.size 38 7 v' n (flat (zbT M 0 n)):=hown;obtain⟨g',cap',rfl⟩:=zam hown' h1;refine⟨g',cap',rfl,?_,(zlP hown').1,⟨λi hi=>zjv hown' i (M i) (by rw[zfB _ _ _ _ hi,Nat.zero_add]),zhh hown'⟩,hb⟩;obtain⟨_,h|⟨_,_,_,hv,_,_,hn,_⟩⟩:=hown'
  ·simp at h
  ·simp at hv;omega
end
section
open Go.RowKit
attribute [local go_sem ↓] Go.wp_at_zero Go.wp_at_succ
theorem ztc (bg g W H N:Nat) (G:Nat->Nat->zk) (w:World) (h:Zi w bg g W H N G):
 Calls Tryz.prog 197 #[.pointer (some ⟨bg,0,none⟩)] w λe w'=>∃bg' g',e=.returned (.pointer (some ⟨bg',0,none⟩))/\Zi w' bg' g' W H N G/\Below w.heap.size w w'/\w.heap.size<=bg'/\w.heap.size<=g':=by
 obtain⟨cp,hcp,c2⟩:=h.c2;have c0:=h.c0;have c1:=h.c1;have zb:=h.lt;have HH:=zH h;have Hfin:Hid (∀(w7:World) (g' cap':Nat),N<=cap'->w.heap.size<=g'->zay w7 g' N (lin W G)->Below w.heap.size w w7->Zi (w7.alloc (.cells #[.int .i64 W,.int .i64 H,.slice (some ⟨g',0,none⟩) N cap'] 166)) w7.heap.size g' W H N G/\Below w.heap.size w (w7.alloc (.cells #[.int .i64 W,.int .i64 H,.slice (some ⟨g',0,none⟩) N cap'] 166))):=by
  intro w7 g' cap' h1 h2 h3 h4;have hg':g'<w7.heap.size:=by
   have a1:=h.w1;have a2:=h.h1;have:0<N:=by rw[h.hN];exact Nat.mul_pos a2 a1
   exact(h3.cel 0 this).lt
  have f2:=h3.same (w':=w7.alloc (.cells #[.int .i64 W,.int .i64 H,.slice (some ⟨g',0,none⟩) N cap'] 166)) (Below.heap_alloc _ _ _ hg');have f3:=zay.grid (by rw[←h.hN];exact f2);refine⟨Zi.congr ⟨⟨cap',h1,zf _ _⟩,f3,h.hN,by omega,h.w1,h.w2,h.h1,h.h2⟩ ?_,h4.alloc h4.size _⟩;intro x y hx hy;exact zbo G y hx
 clear h;go_in;go_wp2_with fail;go_region_held3 (λw'=>w'.cell? ⟨bg,0,none⟩=some (.int .i64 W)/\w'.cell? ⟨bg,1,none⟩=some (.int .i64 H)/\w'.cell? ⟨bg,2,none⟩=some (.slice (some ⟨g,0,none⟩) N cp)) (simp[*]) (first|(go_at_call 214;refine(zlC g N cp (lin W G) _ (HH.out.flat.same (by first|rfl|simp)) HH.out.nle (by have:=HH.out.w1;have:=HH.out.h1;rw[HH.out.hN];exact Nat.mul_pos HH.out.h1 HH.out.w1)).mono ?_;rintro e w7 ⟨g',cap',rfl,hcap,hg',hf,hb7⟩;have hb8:=zL hb7;have e4:=hb8.cells (b:=bg) zb;have ea:∀ob k,(World.alloc w7 ob).cell? ⟨bg,k,none⟩=w7.cell? ⟨bg,k,none⟩:=λob k=>Zj (Below.heap_alloc w7 ob bg (Nat.lt_of_lt_of_le zb hb8.size)) _;have HF:Hid (N<=cap'/\w.heap.size<=g'/\zay w7 g' N (lin W G)/\Below w.heap.size w w7):=⟨hcap,hg',hf,hb8⟩;clear hb7 hb8 hf hg' hcap));all_goals
  go_wp2_with fail;go_ret;obtain⟨x1,x2,x3,x4⟩:=HF.out;obtain⟨y1,y2⟩:=Hfin.out _ _ _ x1 x2 x3 x4;exact⟨_,_,rfl,y1,y2,x4.size,x2⟩
theorem zrr:(Tryz.prog.info? 153).map (·.size)=some 27:=by kernel_rfl
theorem zrs (w:World) (b:Nat) (c:Array Value) (n:Nat) (T:TypeId) (hb:w.heap[b]?=some (.cells c T)) (hn:c.size=n):(loadCellsFrom ⟨b,0,none⟩ 0 n #[]).run Tryz.prog w=.ok c w:=by
 subst hn;have:=run_loadCells_list (P:=Tryz.prog) w ⟨b,0,none⟩ c.toList (λj v hv=>by
  have hadd:(⟨b,0,none⟩:Addr).add j=⟨b,j,none⟩:=by unfold Addr.add;split<;>simp_all
  rw[hadd,za hb];simpa using hv)
 simpa[loadCells] using this
theorem zg1 {P:Program} (w:World) {ops:Array Oper} {rest:List Oper} {o:Oper} {a:Act} {Q:Exit->Act->World->Prop}
 (hg:o.guard=none) (x:Operand) (t:TypeId) (hop:o.op=Op.load t x) (p v:Value) (hx:a.eval x=p) (hrun:(Instr.loadAt t p).run P w=.ok v w)
 (hK:wpList P ops Q rest (a.put o.dst v) w):wpList P ops Q (o::rest) a w:=by
 refine wpList_plain hg λK hK'=>?_;unfold Oper.wp;simp[execOp,hop,hx,hrun,Result.andThen];exact hK' _ _ hK
theorem zgo {P:Program} (w w':World) {ops:Array Oper} {rest:List Oper} {o:Oper} {a:Act} {Q:Exit->Act->World->Prop}
 (hg:o.guard=none) (x y:Operand) (t:TypeId) (hop:o.op=Op.store t x y) (p v:Value) (hx:a.eval x=p) (hy:a.eval y=v) (hrun:(Instr.storeAt t p v).run P w=.ok () w')
 (hK:∀u,wpList P ops Q rest (a.put o.dst u) w'):wpList P ops Q (o::rest) a w:=by
 refine wpList_plain hg λK hK'=>?_;unfold Oper.wp;simp[execOp,hop,hx,hy,hrun,Result.andThen];exact hK' _ _ (hK _)
theorem zuS (bg:Nat) (s:Rs) (t:Pt):(zdh bg s t).all (·.oneCell')=true:=by simp[Value.oneCell']
theorem ztd (bs bg g N:Nat) (s:Rs) (t:Pt) (w:World) (h:zh w bs bg g N s t):
 Calls Tryz.prog 175 #[.pointer (some ⟨bs,0,none⟩)] w λe w'=>∃bs' bg' g',e=.returned (.pointer (some ⟨bs',0,none⟩))/\zh w' bs' bg' g' N s t/\Below w.heap.size w w'/\w.heap.size<=bs'/\w.heap.size<=bg'/\w.heap.size<=g':=by
 have HH:=zH h;have hblk:=h.blk;have zb:=h.lt;have c0:w.cell? ⟨bs,0,none⟩=some (.pointer (some ⟨bg,0,none⟩)):=za hblk 0;obtain⟨arr,harr⟩:∃arr,zdh bg s t=arr:=⟨_,rfl⟩;have hone:=zuS bg s t;have hsz:(zdh bg s t).size=27:=rfl;rw[harr] at hone hsz hblk;have hl:=zrs w bs arr 27 _ hblk hsz;have hld:(Instr.loadAt 153 (.pointer (some ⟨bs,0,none⟩))).run Tryz.prog w=.ok (.agg arr) w:=by
  simp only[Instr.loadAt,Instr.sureAddr,Sem.run_bind,Sem.run_pure,Result.andThen,loadVar,Tryz.isAgg153,Tryz.sizeOf153,loadCells,hl,if_true]
 have hst:=λ(c:Array Value) (hc:c.size=27)=>run_storeAt_new (P:=Tryz.prog) w 153 c arr (by rw[hsz];exact zrr) (by rw[hc,hsz]) hone;have Hld:=zH hld;have Hst:=zH hst;have Harr:=zH harr;clear h hblk harr hone hl hld hst;go_in;go_wp2_with (first|(refine zg1 _ rfl (.tmp 5) 153 rfl _ _ rfl Hld.out ?_)|(refine zgo _ _ rfl (.tmp 3) (.tmp 6) 153 rfl _ _ rfl rfl (Hst.out _ rfl) (λu=>?_)));have hA:∃wA M,w.alloc (.cells arr 153)=wA/\w.heap.size=M/\Below w.heap.size w wA/\wA.heap[M]?=some (.cells arr 153)/\wA.heap.size=M+1:=⟨_,_,rfl,rfl,(Below.refl _ _).alloc (Nat.le_refl _) _,zf _ _,by simp⟩;obtain⟨wA,M,hwA,hM,belA,bA,zA⟩:=hA;rw[hwA,hM];have HA:Hid (Below w.heap.size w wA/\wA.heap[M]?=some (.cells (zdh bg s t) 153)/\zh wA bs bg g N s t):=⟨belA,by rw[Harr.out];exact bA,HH.out.below belA⟩;have HM:=zH hM;clear hwA belA bA hM c0 Hld Hst Harr hsz;go_at_call 197;refine(ztc bg g s.W s.H N s.G wA HA.out.2.2.gr).mono ?_;rintro e w1 ⟨bg',g',rfl,gr,hb1,z1,z2⟩;have hbM:=(hb1.block M (by omega)).trans HA.out.2.1;have f0:=ze hbM 0;have m0:w1.cell? ⟨M,0,none⟩=some (.pointer (some ⟨bg,0,none⟩)):=za hbM 0;have HF:Hid (zh (w1.setCell ⟨M,0,none⟩ (.pointer (some ⟨bg',0,none⟩))) M bg' g' N s t/\Below w.heap.size w (w1.setCell ⟨M,0,none⟩ (.pointer (some ⟨bg',0,none⟩)))):=by
  have k:=(zd.refl (λi=>i=M) w1).setCell ⟨M,0,none⟩ (.pointer (some ⟨bg',0,none⟩)) (λ_=>rfl);have hm:=HM.out;refine⟨⟨zg hbM 0 _,gr.same (k.block _ gr.lt (by omega)) (k.block _ gr.glt (by omega)),by omega,by omega⟩,?_⟩;have hs1:=hb1.size;exact(HA.out.1.trans (hb1.mono (by omega))).trans (k.toBelow (by omega) (λi hi e=>by omega))
 have hz1:w.heap.size<=bg'/\w.heap.size<=g':=by have:=HM.out;omega
 have Hz:=zH hz1;clear hb1 hbM gr z1 z2 hz1 zA;go_wp2_with fail;go_ret;exact⟨M,bg',g',rfl,HF.out.1,HF.out.2,Nat.le_of_eq HM.out,Hz.out.1,Hz.out.2⟩
theorem zph (P:Nat->Nat->zk) {W x:Nat} (y:Nat) (hx:x<W) (st:Rs × List UInt8):zau P W st (y*W+(x+1))=zgh P (zau P W st (y*W+x)) x y:=by
 have a:(y*W+x)%W=x:=by rw[Nat.mul_comm,Nat.mul_add_mod,Nat.mod_eq_of_lt hx]
 have b:(y*W+x)/W=y:=by rw[Nat.mul_comm,Nat.mul_add_div (by omega),Nat.div_eq_of_lt hx];rfl
 rw[←Nat.add_assoc,zau,a,b]
theorem zlD {s:Rs} {P:Nat->Nat->zk} {b0:List UInt8} {i:Nat} {st:Rs × List UInt8} (h:zhb s P b0 i st) (hi:i<=800) (hl:b0.length<=100):st.2.length<=30000:=by
 obtain⟨m,e,_,hm⟩:=h.told;have:=zd7 (λj=>ZL s P (j%s.W) (j/s.W)) i;rw[e,List.length_append];omega
theorem zrt (bs bg g N:Nat) (s:Rs) (t:Pt) (po pc:Nat) (lb lc:Nat->Nat) (H:Nat) (P:Nat->Nat->zk) (n:Int) (w:World) (hp:zh w bs bg g N s t) (tie:Tie s.B t) (pic:PcM w po lb lc s.W H P) (hs:H=s.H) (hpc:H<=pc) (tab:ZY w) (h2:2<=w.heap.size) (fl:s.Fl) (hP:zeG s.W s.H P) (na:-20<=n) (nb:n<=20):
 Calls Tryz.prog 157 #[.pointer (some ⟨bs,0,none⟩),.slice (some ⟨po,0,none⟩) H pc,.int .i64 n] w λe w'=>e=.returned (zaD (ZT s P n))/\Below w.heap.size w w':=by
 have HH:Hid (zh w bs bg g N s t/\Tie s.B t/\PcM w po lb lc s.W H P/\H=s.H/\H<=pc/\ZY w/\2<=w.heap.size/\s.Fl/\zeG s.W s.H P):=⟨hp,tie,pic,hs,hpc,tab,h2,fl,hP⟩;have hH:H<=20:=by have:=fl.ok.h2;omega
 have hH1:1<=H:=by have:=fl.ok.h1;omega
 have w1:=fl.ok.w1;have w2:=fl.ok.w2;have hmul:=Nat.mul_le_mul hH w2;have Hpo:Hid (po<w.heap.size/\∀y,y<H->lb y<w.heap.size):=⟨World.block_lt_of_cell? _ _ (pic.row 0 (by omega)),λy hy=>(pic.cel y 0 hy (by omega)).lt⟩;obtain⟨m0,hm0⟩:∃m0,w.heap.size=m0:=⟨_,rfl⟩;have Hm0:=zH hm0;rw[hm0] at Hpo ⊢;clear hp tie pic hs hpc tab h2 fl hP hm0;go_in;go_wp2_with fail;go_at_call 175;refine(ztd bs bg g N s t w HH.out.1).mono ?_;rintro e w1' ⟨bs',bg',g',rfl,P1,hb1,z1,z2,z3⟩;have H1:Hid (zh w1' bs' bg' g' N s t/\Below w.heap.size w w1'/\w.heap.size<=bs'/\w.heap.size<=bg'/\w.heap.size<=g'):=⟨P1,hb1,z1,z2,z3⟩;clear P1 hb1 z1 z2 z3;go_upto_if 17 with fail;have hB:∃wB bp,w1'.alloc (.cells #[.slice (some ⟨po,0,none⟩) H pc,.pointer (some ⟨bs',0,none⟩),.pointer none,.slice none 0 0] 194)=wB/\w1'.heap.size=bp/\wB.heap[bp]?=some (.cells #[.slice (some ⟨po,0,none⟩) H pc,.pointer (some ⟨bs',0,none⟩),.pointer none,.slice none 0 0] 194)/\Below w1'.heap.size w1' wB/\wB.heap.size=bp+1:=⟨_,_,rfl,rfl,zf _ _,(Below.refl _ _).alloc (Nat.le_refl _) _,by simp⟩;obtain⟨wB,bp,hwB,hbp,bB,belB,zB⟩:=hB;rw[hwB];try rw[hbp]
 have HPa:Hid (PaM wB m0 (bp+1) bp po pc lb lc H P bs' bg' g' N s []/\Below m0 w wB):=by
  obtain⟨q1,q2,q3,q4,q5⟩:=H1.out;obtain⟨r1,r2,r3,r4,r5,r6,r7,r8,r9⟩:=HH.out;have hm:=Hm0.out;have k1:=q1.lt;have k2:=q1.gr.lt;have k3:=q1.gr.glt;have bb:=q2.trans (belB.mono q2.size);refine⟨⟨⟨t,⟨za bB 0,za bB 1,r3.below bb,r4,r5,q1.below belB⟩,r2⟩,⟨⟨_,_,bB,.inl rfl,⟨by simp[Lib.byteCells],.inl ⟨rfl,rfl⟩⟩,by simp⟩,by omega,by omega⟩,r6.below bb,by omega,Hpo.out.1,Hpo.out.2,by omega,by omega,by omega,by have:=q2.size;omega⟩,by rw[←hm];exact bb⟩
 obtain⟨sg,hsg⟩:∃sg,zgi s n=sg:=⟨_,rfl⟩;have Hsg:=zH hsg;have HsF:Hid (sg.1.Fl/\sg.1.W=s.W/\sg.1.H=s.H/\sg.2.length<=10):=by
  obtain⟨r1,r2,r3,r4,r5,r6,r7,r8,r9⟩:=HH.out;show _/\_;rw[←hsg];unfold zgi;by_cases h0:n=0
  ·rw[if_pos h0];exact⟨r8,rfl,rfl,by simp⟩
  ·rw[if_neg h0];have e:=zeI r8 h0 (n:=n) (by omega) (by omega);exact⟨zgL r8 h0 (by omega) (by omega),by show(zj s (zab s n)).W=_;rw[e],by show(zj s (zab s n)).H=_;rw[e],zfq r8 (by omega) (by omega)⟩
 have HPt:Hid (∀i,i<=H*s.W->zhb sg.1 P sg.2 i (zau P s.W sg i)):=by
  obtain⟨r1,r2,r3,r4,r5,r6,r7,r8,r9⟩:=HH.out;obtain⟨f1,f2,f3,f4⟩:=HsF.out;intro i hi;have:=zgj f1 (P:=P) (by rw[f2,f3];exact r9) sg.2 i (by rw[f2,f3,←r4];exact hi);rw[f2] at this;exact this
 clear hwB hbp bB belB zB H1 hsg;go_cut[] (λwc=>PaM wc m0 (bp+1) bp po pc lb lc H P bs' bg' g' N sg.1 sg.2/\Below m0 w wc)
 case first=>
  by_cases h0:n=0
  ·have e0:sg=(s,[]):=by rw[←Hsg.out];unfold zgi;rw[if_pos h0]
   have He0:=zH e0;clear e0;subst h0;go_wp2_with fail;go_meet
   case rel=>rw[He0.out];exact HPa.out
  ·have e0:sg=(zj s (zab s n),zab s n):=by rw[←Hsg.out];unfold zgi;rw[if_neg h0]
   have He0:=zH e0;have hb0:(n != 0)=true:=by simpa using h0
   clear e0;go_wp2_with fail;go_at_call 176;refine(zta m0 (bp+1) bp po pc lb lc H P bs' bg' g' N s [] n wB HPa.out.1 HH.out.2.2.2.2.2.2.2.1 h0 (by omega) (by omega) (by simp)).mono ?_;rintro e wS ⟨rfl,PS,hbS⟩;have HS:Hid (PaM wS m0 (bp+1) bp po pc lb lc H P bs' bg' g' N sg.1 sg.2/\Below m0 w wS):=by
    rw[List.nil_append] at PS;show _/\_;rw[He0.out];exact⟨PS,HPa.out.2.trans hbS⟩
   clear PS hbS;go_wp2_with fail;go_meet
   case rel=>exact HS.out
 case rest=>
  have HC:=zH hcut;clear hcut HPa;go_wp2_with fail;go_loopw[23] (λvi wr=>∃y:Nat,vi=.int .i64 y/\y<=H/\PaM wr m0 (bp+1) bp po pc lb lc H P bs' bg' g' N (zau P s.W sg (y*s.W)).1 (zau P s.W sg (y*s.W)).2/\Below m0 w wr) (λvi _=>H-(intOf vi).toNat)
  case atStart=>exact⟨0,rfl,Nat.zero_le _,by rw[Nat.zero_mul];exact HC.out.1,HC.out.2⟩
  case round=>
   obtain⟨y,rfl,hy,hpa,hbw⟩:=hrel;have HB:Hid (PaM wr m0 (bp+1) bp po pc lb lc H P bs' bg' g' N (zau P s.W sg (y*s.W)).1 (zau P s.W sg (y*s.W)).2/\Below m0 w wr):=⟨hpa,hbw⟩;clear hpa hbw HC;by_cases hc:y<H
   ·have hc':(y:Int)<(H:Int):=by omega
    have hyW:y*s.W+s.W<=H*s.W:=by rw[←Nat.succ_mul];exact Nat.mul_le_mul_right _ hc
    have r0:wr.cell? ⟨po,y,none⟩=some (.slice (some ⟨lb y,0,none⟩) s.W (lc y)):=by
     obtain⟨tq,pq,_⟩:=HB.out.1.ex;have:=pq.pic.row y hc;rw[(HPt.out (y*s.W) (by omega)).W,HsF.out.2.1] at this;exact this
    have Hy:Hid (y<H/\y*s.W+s.W<=H*s.W):=⟨hc,hyW⟩;clear hc hyW hy;go_wp2_with fail;go_loopw[30] (λvi wi=>∃x:Nat,vi=.int .i64 x/\x<=s.W/\PaM wi m0 (bp+1) bp po pc lb lc H P bs' bg' g' N (zau P s.W sg (y*s.W+x)).1 (zau P s.W sg (y*s.W+x)).2/\Below m0 w wi) (λvi _=>s.W-(intOf vi).toNat)
    case atStart=>exact⟨0,rfl,Nat.zero_le _,HB.out.1,HB.out.2⟩
    case round=>
     obtain⟨x,rfl,hx,hpa,hbi⟩:=hrel;have HBi:Hid (PaM wr m0 (bp+1) bp po pc lb lc H P bs' bg' g' N (zau P s.W sg (y*s.W+x)).1 (zau P s.W sg (y*s.W+x)).2/\Below m0 w wr):=⟨hpa,hbi⟩;clear hpa hbi r0;by_cases hxc:x<s.W
     ·have hxc':(x:Int)<(s.W:Int):=by omega
      have Hx:=zH hxc;have Hst:=zH<|zph P y hxc sg
      have HPn:=HPt.out (y*s.W+x) (by have:=Hy.out.2;omega);obtain⟨st,hst⟩:∃st,zau P s.W sg (y*s.W+x)=st:=⟨_,rfl⟩;rw[hst] at Hst HBi HPn;have HPn2:=zH HPn;have HWH:Hid (st.1.W=s.W/\st.1.H=s.H/\st.2.length<=30000):=⟨HPn.W.trans HsF.out.2.1,HPn.H.trans HsF.out.2.2.1,zlD HPn (by have:=Hy.out.2;omega) (by have:=HsF.out.2.2.2;omega)⟩;clear hst HPn hxc hx;go_wp2_with fail;go_at_call 177;obtain⟨tq,pq,_⟩:=HBi.out.1.ex;refine(zig bp po pc lb lc H P bs' bg' g' N st.1 tq x y wr pq (by rw[HWH.out.1];exact Hx.out) (by rw[HWH.out.2.1,←HH.out.2.2.2.1];exact Hy.out.1)).mono ?_;clear pq;rintro e w7 ⟨rfl,hb7⟩;have H7:Hid (PaM w7 m0 (bp+1) bp po pc lb lc H P bs' bg' g' N st.1 st.2/\Below m0 w w7):=⟨HBi.out.1.below hb7,HBi.out.2.trans (hb7.mono (by have:=HBi.out.1.bd.le;have:=HBi.out.1.p0;omega))⟩;clear hb7;cases hd:ZL st.1 P x y with
      |false=>
       have Hn:Hid (zau P s.W sg (y*s.W+(x+1))=st):=by
        show _=_;rw[Hst.out];unfold zgh;rw[if_neg (by rw[hd];decide)]
       clear hd;go_wp2_with fail;go_roundw
       case rel=>exact⟨x+1,by go_num,by have:=Hx.out;omega,by rw[Hn.out];exact H7.out.1,H7.out.2⟩
       case measure=>simp[intOf];have:=Hx.out;omega
      |true=>
       have Hn:Hid (zau P s.W sg (y*s.W+(x+1))=(zj st.1 (zbs st.1 P x y),st.2++zbs st.1 P x y)):=by
        show _=_;rw[Hst.out];unfold zgh;rw[if_pos hd]
       have Hd:=zH<|zeH.1 hd
       clear hd;go_wp2_with fail;go_at_call 178;refine(zwg m0 (bp+1) bp po pc lb lc H P bs' bg' g' N st.1 st.2 x y w7 H7.out.1 HPn2.out.fl (by rw[HWH.out.1,HWH.out.2.1];exact HH.out.2.2.2.2.2.2.2.2) (by rw[HWH.out.1];exact Hx.out) (by rw[HWH.out.2.1,←HH.out.2.2.2.1];exact Hy.out.1) (λa b ha hb hlt=>HPn2.out.done a b (by rw[HsF.out.2.1,←HWH.out.1];exact ha) (by rw[HsF.out.2.2.1,←HWH.out.2.1];exact hb) (by rw[HsF.out.2.1];rw[HWH.out.1] at hlt;exact hlt)) Hd.out (by have:=HWH.out.2.2;omega)).mono ?_;rintro e w8 ⟨rfl,P8,hb8⟩;have H8:Hid (PaM w8 m0 (bp+1) bp po pc lb lc H P bs' bg' g' N (zj st.1 (zbs st.1 P x y)) (st.2++zbs st.1 P x y)/\Below m0 w w8):=⟨P8,H7.out.2.trans hb8⟩;clear P8 hb8;go_wp2_with fail;go_roundw
       case rel=>exact⟨x+1,by go_num,by have:=Hx.out;omega,by rw[Hn.out];exact H8.out.1,H8.out.2⟩
       case measure=>simp[intOf];have:=Hx.out;omega
     ·have hxc':¬((x:Int)<(s.W:Int)):=by omega
      have ex:x=s.W:=by omega
      have Hex:=zH ex;clear ex hxc hx;go_wp2_with fail;go_roundw
      case rel=>exact⟨y+1,by go_num,by have:=Hy.out.1;omega,by rw[Nat.succ_mul,←Hex.out];rw[←Hex.out] at HBi;exact HBi.out.1,HBi.out.2⟩
      case measure=>simp[intOf];have:=Hy.out.1;omega
   ·have hc':¬((y:Int)<(H:Int)):=by omega
    have ey:y=H:=by omega
    have Hey:=zH ey;clear ey hc hy;go_wp2_with fail;go_at_call 179;refine(zs9 bp (bp+1) _ _ _ wr HB.out.1.bd).mono ?_;rintro e wz ⟨rfl,hbz⟩;have HZ:=zH<|HB.out.2.trans (hbz.mono (by have:=HB.out.1.p0;omega))
    have HR:Hid (ZT s P n=(zau P s.W sg (y*s.W)).2):=by
     show _=_;unfold ZT;rw[Hsg.out,Hey.out,HH.out.2.2.2.1]
    rw[←HR.out];clear hbz;go_wp2_with fail;go_ret;exact⟨rfl,HZ.out⟩
theorem zuT (bs bg g N:Nat) (s:Rs) (t:Pt) (po pc:Nat) (lb lc:Nat->Nat) (H:Nat) (P:Nat->Nat->zk) (w:World) (hp:zh w bs bg g N s t) (tie:Tie s.B t) (pic:PcM w po lb lc s.W H P) (hs:H=s.H) (hpc:H<=pc) (tab:ZY w) (h2:2<=w.heap.size) (fl:s.Fl) (hP:zeG s.W s.H P):
 Calls Tryz.prog 123 #[.pointer (some ⟨bs,0,none⟩),.slice (some ⟨po,0,none⟩) H pc] w λe w'=>e=.returned (zaD (zdu s P))/\Below w.heap.size w w':=by
 have hn:=(znv (s:=s) (P:=P) s.H).2.1;have hh2:=fl.ok.h2;have HR:=zH<|λwx n hb a b=>zrt bs bg g N s t po pc lb lc H P n wx (hp.below hb) tie (pic.below hb) hs hpc (tab.below hb) (Nat.le_trans h2 hb.size) fl hP a b
 have HN:=zH<|λwx hb=>zrv bs bg g N s t po pc lb lc H P wx (hp.below hb) (pic.below hb) hs fl.ok
 have hdef:zdu s P=if (zaw s P s.H).1≠0/\(ZT s P (zaw s P s.H).1).length<(ZT s P 0).length then ZT s P (zaw s P s.H).1 else ZT s P 0:=rfl;rw[hdef];obtain⟨nn,hnn⟩:∃nn,(zaw s P s.H).1=nn:=⟨_,rfl⟩;rw[hnn] at hn HN ⊢;obtain⟨r0,hr0⟩:∃r0,ZT s P 0=r0:=⟨_,rfl⟩;obtain⟨rn,hrn⟩:∃rn,ZT s P nn=rn:=⟨_,rfl⟩;rw[hr0,hrn];have Hr0:=zH hr0;have Hrn:=zH hrn;have Hnn:Hid (-20<=nn/\nn<=20):=⟨by omega,by omega⟩;clear hp tie pic hs hpc tab h2 fl hP hn hh2 hdef hnn hr0 hrn;go_in;go_wp2_with fail;go_at_call 157;refine(HR.out w 0 (Below.refl _ _) (by omega) (by omega)).mono ?_;rw[Hr0.out];rintro e w1 ⟨rfl,hb1⟩;have HB1:=zH hb1;clear hb1;go_wp2_with fail;go_at_call 158;refine(HN.out w1 HB1.out).mono ?_;rintro e w2 ⟨rfl,hb2⟩;have HB2:=zH<|HB1.out.trans (hb2.mono HB1.out.size)
 clear hb2;by_cases h0:nn=0
 ·subst h0;go_wp2_with fail;go_ret;exact⟨by simp,HB2.out⟩
 ·have hb0:(nn != 0)=true:=by simpa using h0
  have H0:Hid (nn≠0):=h0;clear h0;go_wp2_with fail;go_at_call 157;refine(HR.out w2 nn HB2.out Hnn.out.1 Hnn.out.2).mono ?_;rw[Hrn.out];rintro e w3 ⟨rfl,hb3⟩;have HB3:=zH<|HB2.out.trans (hb3.mono HB2.out.size)
  have e1:((({data:=rn.toArray}:ByteArray).size:Nat):Int)=(rn.length:Int):=rfl;have e2:((({data:=r0.toArray}:ByteArray).size:Nat):Int)=(r0.length:Int):=rfl;clear hb3;by_cases hl:rn.length<r0.length
  ·have hl':(rn.length:Int)<(r0.length:Int):=by omega
   go_wp2_with fail;go_ret;exact⟨by first|rfl|(rw[if_pos ⟨H0.out,hl⟩];rfl),HB3.out⟩
  ·have hl':¬((rn.length:Int)<(r0.length:Int)):=by omega
   go_wp2_with fail;go_ret;exact⟨by first|rfl|(rw[if_neg (λq=>hl q.2)];rfl),HB3.out⟩
structure zj9 (L:List Wn) (s:Rs):Prop where
 fl:s.Fl
 pens:zah L
 fit:Fits L s.W s.H
section
variable {M:Mm} {L:List Wn} {last:Int} {N:Nat} {s:Rs} {t:Pt} {rk:Int->Nat} {K:Nat}
theorem zj9.pic (f:zj9 L s) (T:ZR L rk K) {w:World} (h:zI w M L last N s t) {r:Wn} (hr:r∈L) (hr0:r.n=0):zeG s.W s.H (λx y=>zcx L K r x y):=by
 obtain⟨a,b⟩:=f.fit r hr hr0;rw[←a,←b];exact zup T (h.winsOk f.pens) hr
theorem zuU (T:ZR L rk K) (ok:ZK L last) (w:World) (h:zI w M L last N s t) (tie:Tie s.B t) (f:zj9 L s) (tab:ZY w) (r:Wn) (hr:r∈L) (hr0:r.n=0) (b:List UInt8) (hb:zdu s (λx y=>zcx L K r x y)=b):
 Calls Tryz.prog 61 #[.pointer (some ⟨M.t 1,0,none⟩)] w λe w'=>e=.returned (zaD b)/\(∃t',zh w' (M.t 2) (M.t 3) (M.t 4) N (zj s b) t'/\Tie (zj s b).B t')/\zd (λi=>i=M.t 2\/i=M.t 3\/i=M.t 4) w w':=by
 have hP:=f.pic T h hr hr0;obtain⟨eW,eH⟩:=f.fit r hr hr0;obtain⟨P,hPd⟩:∃P:Nat->Nat->zk,(λx y:Nat=>zcx L K r x y)=P:=⟨_,rfl⟩;rw[hPd] at hP hb;have Hb:=zH hb;have Hlen:Hid (b.length<=100000):=by
  have h1:=(zk6 f.fl hP).few;have h2:ZA s P 0<=s.H*s.W:=zd7 _ _;have h3:=Nat.mul_le_mul f.fl.ok.h2 f.fl.ok.w2;rw[hb] at h1;show _<=_;omega
 have k2:w.cell? ⟨M.t 1,2,none⟩=some (.pointer (some ⟨M.t 2,0,none⟩)):=za h.b1 2;have z1:M.t 1<w.heap.size:=World.block_lt_of_cell? _ _ k2;have t2:=λk hk=>h.two _ (Zg M L k hk);have HD:Hid (zI w M L last N s t/\Tie s.B t/\zj9 L s/\ZY w/\ZR L rk K/\ZK L last/\r∈L/\r.n=0/\zeG s.W s.H P/\r.W=s.W/\r.H=s.H):=⟨h,tie,f,tab,T,ok,hr,hr0,hP,eW,eH⟩;have Ht2:=zH t2;have HPd:=zH hPd;clear h tie f tab T ok hr hr0 hP eW eH hPd hb t2;go_in;go_wp2_with fail;go_region_held3 (λw'=>w'.cell? ⟨M.t 1,2,none⟩=some (.pointer (some ⟨M.t 2,0,none⟩))) (simp[*]) (first|(go_at_call 124;refine(zrn HD.out.2.2.2.2.1 HD.out.2.2.2.2.2.1 _ (HD.out.1.below (by first|exact Below.refl _ _|exact(Below.refl _ _).drew)) r HD.out.2.2.2.2.2.2.1 HD.out.2.2.2.2.2.2.2.1).mono ?_;rintro e w5 ⟨po,lb,rfl,pm,hb5⟩;have hb6:=zL hb5;have e1:=hb6.cells (b:=M.t 1) z1;have z5:=Nat.lt_of_lt_of_le z1 hb6.size;have H5:Hid (PcM w5 po lb (λ_=>r.W) r.W r.H P/\Below w.heap.size w w5):=⟨by {rw[←HPd.out];exact pm},hb6⟩;clear pm hb5 hb6)|(go_at_call 123;refine(zuT (M.t 2) (M.t 3) (M.t 4) N s t po r.H lb (λ_=>r.W) r.H P _ (HD.out.1.scr.below (by first|exact H5.out.2|exact H5.out.2.drew)) HD.out.2.1 (by {rw[←HD.out.2.2.2.2.2.2.2.2.2.1];exact H5.out.1}) HD.out.2.2.2.2.2.2.2.2.2.2 (Nat.le_refl _) (HD.out.2.2.2.1.below (by first|exact H5.out.2|exact H5.out.2.drew)) (by {have:=Ht2.out 1 (by omega);have:=z5;omega}) HD.out.2.2.1.fl HD.out.2.2.2.2.2.2.2.2.1).mono ?_;rw[Hb.out];rintro e w6 ⟨rfl,hb7⟩;have e2:=hb7.cells (b:=M.t 1) z5;have H6:=zH<|H5.out.2.trans (hb7.mono H5.out.2.size);clear hb7));all_goals
  have k6:=(H6.out.cells (b:=M.t 1) z1 2).trans k2;clear k2 e1 e2;go_wp2_with fail;go_at_call 62;have q2:=Ht2.out 2 (by omega);have q3:=Ht2.out 3 (by omega);have q4:=Ht2.out 4 (by omega);refine(zq8 (M.t 2) (M.t 3) (M.t 4) N s t ⟨b.toArray⟩ w6 (HD.out.1.scr.below H6.out) HD.out.2.2.1.fl.ok (HD.out.2.2.2.1.below H6.out) HD.out.2.1 (by omega) (by omega) (by omega) (by omega) (by omega) (by omega) (by have:=Hlen.out;show b.length<=_;omega)).mono ?_;rintro e w7 ⟨rfl,⟨t7,P7,tie7⟩,K7⟩;have e2:zj s (⟨b.toArray⟩:ByteArray).data.toList=zj s b:=by simp
  rw[e2] at P7 tie7;have H7:Hid ((∃t',zh w7 (M.t 2) (M.t 3) (M.t 4) N (zj s b) t'/\Tie (zj s b).B t')/\zd (λi=>i=M.t 2\/i=M.t 3\/i=M.t 4) w w7):=⟨⟨t7,P7,tie7⟩,(zd.below _ H6.out).trans K7 (λ_ _ q=>q)⟩;clear P7 tie7 K7 k6 e2 q2 q3 q4;go_wp2_with fail;go_ret;exact⟨rfl,H7.out⟩
theorem zuV (T:ZR L rk K) (ok:ZK L last) (w:World) (h:zI w M L last N s t) (tie:Tie s.B t) (f:zj9 L s) (tab:ZY w) (r:Wn) (hr:r∈L) (hr0:r.n=0) (b:List UInt8) (hb:zdu s (λx y=>zcx L K r x y)=b):
 Calls Tryz.prog 21 #[.pointer (some ⟨M.t 0,0,none⟩)] w λe w'=>∃t',Tie (zj s b).B t'/\zbZ M L L last (zj s b) t' w (zaD b) e w':=by
 have k0:w.cell? ⟨M.t 0,0,none⟩=some (.pointer (some ⟨M.t 1,0,none⟩)):=za h.b0 0;have HF:=zH<|zuU T ok w h tie f tab r hr hr0 b hb
 have HD:=zH h;clear h tie f tab T ok hr hr0 hb;go_in;go_wp2_with (first|(go_at_call 41;refine sM (ziJ _ HD.out) ?_));go_at_call 61;refine HF.out.mono ?_;rintro e w7 ⟨rfl,⟨t7,P7,tie7⟩,K7⟩;have HP:Hid (∃t',Tie (zj s b).B t'/\zbZ M L L last (zj s b) t' w (zaD b) (.returned (zaD b)) w7):=⟨t7,tie7,HD.out.rescreen P7 K7 (.inl rfl) (zaD b)⟩;clear P7 tie7 K7 k0 HF;go_wp2_with fail;go_ret;exact HP.out
end
end
end Go.Proofs.YtjlfibhbfdckpaaGreatDoor
