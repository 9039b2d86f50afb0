import Derived.Test.YtjlfibhbfdckpaaGreatDoorV14
namespace Go.Proofs.YtjlfibhbfdckpaaGreatDoor
set_option maxHeartbeats 64000000
set_option maxRecDepth 100000
section
open Go.RowKit
open Wd (wd)
attribute [local go_sem ↓] Go.wp_at_zero Go.wp_at_succ
def zdV (r:Int) (p:Pn) (x:Nat):Nat->zk:=λa=>if wd r=2 then(if a=x then⟨r,1,p⟩ else⟨r,2,p⟩) else⟨r,0,p⟩
def ziu (r:Int) (p:Pn) (x y:Nat) (G:Nat->Nat->zk):Nat->Nat->zk:=
 wrt G (zg5 x (x+(if wd r=2 then 2 else 1)) y) (λa _=>zdV r p x a)
theorem ztt (bg g W H N:Nat) (G:Nat->Nat->zk) (x y:Nat) (r:Int) (p:Pn) (w:World) (h:Zi w bg g W H N G) (hw:Wf W H G) (hy:y<H) (hr:wd r=2) (hx:x+2<=W):
 Calls Tryz.prog 168 #[.pointer (some ⟨bg,0,none⟩),.int .i64 x,.int .i64 y,.int .i32 r,p.agg] w λe w'=>e=.returned (.tuple #[])/\Zi w' bg g W H N (ziu r p x y G)/\zd (λi=>i=g) w w':=by
 have HG:=zH h;have w1:=h.w1;have w2:=h.w2;clear h;go_in;go_wp2_with fail;have hb1:Below w.heap.size w (w.alloc (.cells #[.int .i64 p.f,.int .i64 p.b,.bool p.bo,.bool p.un,.bool p.re] 33)):=(Below.refl _ _).alloc (Nat.le_refl _) _;have G1:=HG.out.below hb1;have K1:zd (λi=>i=g) w (w.alloc (.cells #[.int .i64 p.f,.int .i64 p.b,.bool p.bo,.bool p.un,.bool p.re] 33)):=zd.below _ hb1;have P1:=ZO w p 33;generalize w.alloc (.cells #[.int .i64 p.f,.int .i64 p.b,.bool p.bo,.bool p.un,.bool p.re] 33)=wa at *;have hgb:=HG.out.glt;have np:¬w.heap.size=g:=by omega
 have lp:=P1.lt;generalize hB:w.heap.size=Bp at *;clear hb1 HG hgb;have HG1:=zH G1;have HP1:=zH P1;clear G1 P1;go_at_call 129;refine sM (Wd.lettersWidth _ _) ?_;rw[hr];obtain⟨m,hm⟩:∃m,y*W=m:=⟨_,rfl⟩;have hmw:m+W<=N:=by rw[←hm,HG1.out.hN];have:=Nat.mul_le_mul_right W hy;rw[Nat.succ_mul] at this;exact this
 obtain⟨cp,hcp,hd2⟩:=HG1.out.c2;obtain⟨k,hk⟩:∃k,m+k=cp:=⟨cp-m,by omega⟩;have nle:=HG1.out.nle;go_wp2_with fail;rw[show((x:Int)+2)=((x+2:Nat):Int) by omega];go_at_call 155;refine(znb bg g W H N G x (x+2) y m k _ HG1.out hy hm cp hcp hd2 hk (by omega) (by omega)).mono ?_;rintro e w5 ⟨rfl,F5,K5⟩;rw[show x+2-x=2 by omega];have P5:=HP1.out.keep K5 np;have HF5:=zH F5;have HP5:=zH P5;clear F5 P5 HP1 lp;obtain⟨o,ho⟩:∃o,(m+x)*7=o:=⟨_,rfl⟩;rw[ho];have t5:=HF5.out.cel (m+x) (by omega);have q5:=HF5.out.cel (m+x+1) (by omega);have fr5:=HF5.out.free;rw[ho] at t5;rw[show(m+x+1)*7=o+7 by omega] at q5;obtain⟨p0,p1,p2,p3,p4⟩:=HP5.out;obtain⟨t0,t1,t2,t3,t4,t5,t6⟩:=t5;obtain⟨q0,q1,q2,q3,q4,q5,q6⟩:=q5;simp only[Nat.add_assoc,Nat.reduceAdd,Nat.zero_add] at p1 p2 p3 p4 q1 q2 q3 q4 q5 q6;have np':¬g=Bp:=λe=>np e.symm;go_wp2_with fail;have R1:=HF5.out.put (i:=m+x) (by omega) (⟨r,1,p⟩:zk);rw[ho] at R1;have R2:=R1.put (i:=m+x+1) (by omega) (⟨r,2,p⟩:zk);rw[show(m+x+1)*7=o+7 by omega] at R2;have K6:=(K5.put7 g o (⟨r,1,p⟩:zk) (λ_=>rfl)).put7 g (o+7) (⟨r,2,p⟩:zk) (λ_=>rfl);refine bodyPost_ret (v:=.tuple #[]) (by simp[results,Tryz.results168,go_sem]) rfl ⟨rfl,HG1.out.with R2 K6 ?_,K1.trans K6 (λ_ _ h=>h)⟩;unfold ziu;rw[hr];refine zhq hw (x0:=x) (x1:=x+2) (y:=y) (by omega) (by omega) hy (zdV r p x) (λi=>?_);rw[hm];unfold zgU zdV;rw[hr];by_cases e1:i=m+x+1
 ·rw[if_pos e1,if_pos (by omega),if_pos rfl,if_neg (by omega)]
 ·rw[if_neg e1];by_cases e2:i=m+x
  ·rw[if_pos e2,if_pos (by omega),if_pos rfl,if_pos (by omega)]
  ·rw[if_neg e2,if_neg (by omega)]
theorem ztu (bg g W H N:Nat) (G:Nat->Nat->zk) (x y:Nat) (r:Int) (p:Pn) (w:World) (h:Zi w bg g W H N G) (hw:Wf W H G) (hy:y<H) (hr:wd r=1) (hx:x<W):
 Calls Tryz.prog 168 #[.pointer (some ⟨bg,0,none⟩),.int .i64 x,.int .i64 y,.int .i32 r,p.agg] w λe w'=>e=.returned (.tuple #[])/\Zi w' bg g W H N (ziu r p x y G)/\zd (λi=>i=g) w w':=by
 have HG:=zH h;have w1:=h.w1;have w2:=h.w2;clear h;go_in;go_wp2_with fail;have hb1:Below w.heap.size w (w.alloc (.cells #[.int .i64 p.f,.int .i64 p.b,.bool p.bo,.bool p.un,.bool p.re] 33)):=(Below.refl _ _).alloc (Nat.le_refl _) _;have G1:=HG.out.below hb1;have K1:zd (λi=>i=g) w (w.alloc (.cells #[.int .i64 p.f,.int .i64 p.b,.bool p.bo,.bool p.un,.bool p.re] 33)):=zd.below _ hb1;have P1:=ZO w p 33;generalize w.alloc (.cells #[.int .i64 p.f,.int .i64 p.b,.bool p.bo,.bool p.un,.bool p.re] 33)=wa at *;have hgb:=HG.out.glt;have np:¬w.heap.size=g:=by omega
 have lp:=P1.lt;generalize hB:w.heap.size=Bp at *;clear hb1 HG hgb;have HG1:=zH G1;have HP1:=zH P1;clear G1;go_at_call 129;refine sM (Wd.lettersWidth _ _) ?_;rw[hr];obtain⟨m,hm⟩:∃m,y*W=m:=⟨_,rfl⟩;have hmw:m+W<=N:=by rw[←hm,HG1.out.hN];have:=Nat.mul_le_mul_right W hy;rw[Nat.succ_mul] at this;exact this
 obtain⟨cp,hcp,hd2⟩:=HG1.out.c2;obtain⟨k,hk⟩:∃k,m+k=cp:=⟨cp-m,by omega⟩;have nle:=HG1.out.nle;obtain⟨p0,p1,p2,p3,p4⟩:=P1;simp only[Nat.zero_add] at p1 p2 p3 p4;go_wp2_with fail;obtain⟨o,ho⟩:∃o,(m+x)*7=o:=⟨_,rfl⟩;have F1:=HG1.out.flat;have t1:=F1.cel (m+x) (by omega);rw[ho] at t1;obtain⟨t0,t1,t2,t3,t4,t5,t6⟩:=t1;have fr:=F1.free;clear F1;have np':¬g=Bp:=λe=>np e.symm;have HD:Hid (Zi wa.drew bg g W H N G):=HG1.out.same rfl rfl;have Hx1:Hid ((x:Int)+1=((x+1:Nat):Int)):=by show _=_;omega
 have hw1:IntKind.i64.wrap ((x:Int)+1)=(x:Int)+1:=zm _ (by omega) (by omega);go_region_held3 (λw'=>w'.cell? ⟨Bp,0,none⟩=some (.int .i64 p.f)/\w'.cell? ⟨Bp,1,none⟩=some (.int .i64 p.b)/\w'.cell? ⟨Bp,2,none⟩=some (.bool p.bo)/\w'.cell? ⟨Bp,3,none⟩=some (.bool p.un)/\w'.cell? ⟨Bp,4,none⟩=some (.bool p.re)/\(w'.cell? ⟨g,o,none⟩).isSome=true/\(w'.cell? ⟨g,o+1,none⟩).isSome=true/\(w'.cell? ⟨g,o+2,none⟩).isSome=true/\(w'.cell? ⟨g,o+3,none⟩).isSome=true/\(w'.cell? ⟨g,o+4,none⟩).isSome=true/\(w'.cell? ⟨g,o+5,none⟩).isSome=true/\(w'.cell? ⟨g,o+6,none⟩).isSome=true/\(∀o,w'.frozen? ⟨g,o,none⟩=false)) (simp[*,World.cell?_setCell_far,ZZ]) (first|(go_at_call 155;rw[Hx1.out];refine(znb bg g W H N G x (x+1) y m k _ HD.out hy hm cp hcp hd2 hk (by omega) (by omega)).mono ?_;rintro e w5 ⟨rfl,F5,K5⟩;rw[show x+1-x=1 by omega,ho];have e1:=keepC K5 lp np;have u5:=F5.cel (m+x) (by omega);rw[ho] at u5;obtain⟨u0,u1,u2,u3,u4,u5,u6⟩:=u5;have fr5:=F5.free));go_wp2_with fail;go_end0;have R1:=F5.put (i:=m+x) (by omega) (⟨r,0,p⟩:zk);rw[ho] at R1;have K6:=(((zd.refl (λi=>i=g) wa).drew).trans K5 (λ_ _ h=>h)).put7 g o (⟨r,0,p⟩:zk) (λ_=>rfl);refine⟨rfl,HG1.out.with R1 K6 ?_,K1.trans K6 (λ_ _ h=>h)⟩;unfold ziu;rw[hr];refine zhq hw (x0:=x) (x1:=x+1) (y:=y) (by omega) (by omega) hy (zdV r p x) (λi=>?_);rw[hm];unfold zgU zdV;rw[hr];by_cases e2:i=m+x
 ·rw[if_pos e2,if_pos (by omega),if_neg (by decide)]
 ·rw[if_neg e2,if_neg (by omega)]
end
section
open Go.RowKit
attribute [local go_sem ↓] Go.wp_at_zero Go.wp_at_succ
theorem zcV {P:Program} (w:World) {ops:Array Oper} {rest:List Oper} {o:Oper} {a:Act} {Q:Exit->Act->World->Prop}
 (hg:o.guard=none) (l c:Operand) (t:TypeId) (hop:o.op=Op.makeSlice t l c)
 (e:TypeId) (z:Value) (size bytes:Nat) (h1:P.underlying t=some (.slice e)) (h2:(P.info? e).map (λi=>(i.zero,i.size,i.bytes))=some (some z,size,bytes))
 (n:Nat) (hl:a.eval l=.int .i64 n) (hc:a.eval c=.int .i64 n) (hn:n<=800) (hb:bytes<=1000)
 (hK:wpList P ops Q rest (a.put o.dst (.slice (some ⟨w.heap.size,0,none⟩) n n)) (w.alloc (.cells (madeCells z.cells (n*size)) e))):
 wpList P ops Q (o::rest) a w:=by
 refine wpList_plain hg λK hK'=>?_;cases hi:P.info? e with
 |none=>rw[hi] at h2;simp at h2
 |some i=>
  rw[hi] at h2;simp at h2;have hbb:i.bytes*n<=1000*800:=Nat.mul_le_mul (by omega) hn;have hbi:(i.bytes:Int)*(n:Int)<=281474976710656:=by
   rw[←Int.natCast_mul];omega
  have hrun:=run_make (P:=P) w t e i z h1 hi h2.1 .i64 .i64 n n (by omega) (by omega) hbi (by omega);rw[h2.2.1] at hrun;unfold Oper.wp;simp[execOp,hop,hl,hc,hrun,Result.andThen];exact hK' _ _ hK
theorem ziG (w:World) (n:Nat) (t:TypeId):zay (w.alloc (.cells (madeCells #[.int .i32 0,.int .i64 0,.int .i64 0,.int .i64 0,.bool false,.bool false,.bool false] (n*7)) t)) w.heap.size n (λ_=>⟨0,0,Pn.plain⟩):=by
 have key:∀i j,i<n->j<7->(w.alloc (.cells (madeCells #[.int .i32 0,.int .i64 0,.int .i64 0,.int .i64 0,.bool false,.bool false,.bool false] (n*7)) t)).cell? ⟨w.heap.size,i*7+j,none⟩=some ((#[.int .i32 0,.int .i64 0,.int .i64 0,.int .i64 0,.bool false,.bool false,.bool false]:Array Value)[j]!):=by
  intro i j hi hj;rw[za (zf w _)];unfold madeCells;rw[Array.getElem?_map,Array.getElem?_range,if_pos (by omega)];simp only[Option.map_some];rw[show(i*7+j)%(#[.int .i32 0,.int .i64 0,.int .i64 0,.int .i64 0,.bool false,.bool false,.bool false]:Array Value).size=j by simp;omega]
 refine⟨λi hi=>?_,λo=>ze (zf w _) o⟩;exact⟨key i 0 hi (by omega),key i 1 hi (by omega),key i 2 hi (by omega),key i 3 hi (by omega),key i 4 hi (by omega),key i 5 hi (by omega),key i 6 hi (by omega)⟩
theorem zkr:(Tryz.prog.info? 38).map (λi=>(i.zero,i.size,i.bytes))=some (some (.agg #[.int .i32 0,.int .i64 0,.int .i64 0,.int .i64 0,.bool false,.bool false,.bool false]),7,40):=by kernel_rfl
theorem zrU (W H:Nat) (w:World) (w1:1<=W) (w2:W<=40) (h1:1<=H) (h2:H<=20):
 Calls Tryz.prog 108 #[.int .i64 W,.int .i64 H] w λe w'=>∃bg g,e=.returned (.pointer (some ⟨bg,0,none⟩))/\Zi w' bg g W H (H*W) (λ_ _=>blk Pn.plain)/\Below w.heap.size w w'/\w.heap.size<=bg/\w.heap.size<=g:=by
 obtain⟨N,hN⟩:∃N,H*W=N:=⟨_,rfl⟩;have hmul:(W:Int)*H=N:=by rw[←hN,Int.natCast_mul,Int.mul_comm]
 have nle:N<=800:=by rw[←hN];exact Nat.mul_le_mul h2 w2
 have n1:1<=N:=by rw[←hN];exact Nat.mul_le_mul h1 w1
 have hw1:IntKind.i64.wrap ((W:Int)*(H:Int))=(N:Int):=by rw[hmul];exact zm _ (by omega) (by omega)
 have HN:=zH hN;rw[hN];clear hN;go_in;go_wp2_with (at_make;go_must (refine zcV _ rfl _ _ 120 rfl 38 _ 7 40 Tryz.underlying120 zkr N (by rfl) (by rfl) nle (by omega) ?_));have hf:=ziG w N 38;have hb1:Below w.heap.size w (w.alloc (.cells (madeCells #[.int .i32 0,.int .i64 0,.int .i64 0,.int .i64 0,.bool false,.bool false,.bool false] (N*7)) 38)):=(Below.refl _ _).alloc (Nat.le_refl _) _;have s1:(w.alloc (.cells (madeCells #[.int .i32 0,.int .i64 0,.int .i64 0,.int .i64 0,.bool false,.bool false,.bool false] (N*7)) 38)).heap.size=w.heap.size+1:=size_alloc _ _;generalize w.alloc (.cells (madeCells #[.int .i32 0,.int .i64 0,.int .i64 0,.int .i64 0,.bool false,.bool false,.bool false] (N*7)) 38)=wa at *;have hn:=zf wa (.cells #[.int .i64 W,.int .i64 H,.slice (some ⟨w.heap.size,0,none⟩) N N] 166);rw[s1] at hn;have hf2:=hf.same (w':=wa.alloc (.cells #[.int .i64 W,.int .i64 H,.slice (some ⟨w.heap.size,0,none⟩) N N] 166)) (Below.heap_alloc _ _ _ (by omega));have hb2:=hb1.alloc (by omega) (.cells #[.int .i64 W,.int .i64 H,.slice (some ⟨w.heap.size,0,none⟩) N N] 166);generalize wa.alloc (.cells #[.int .i64 W,.int .i64 H,.slice (some ⟨w.heap.size,0,none⟩) N N] 166)=wb at *;clear hf hb1;go_at_call 148;refine(zhp w.heap.size N 0 N N _ _ Pn.plain _ hf2 (λ_=>rfl) (by omega) nle (by omega)).mono ?_;rintro e w3 ⟨rfl,F3,K3⟩;have h3:w3.heap[w.heap.size+1]?=some (.cells #[.int .i64 W,.int .i64 H,.slice (some ⟨w.heap.size,0,none⟩) N N] 166):=by
  rw[K3.block _ (Array.getElem?_eq_some_iff.1 hn).1 (by omega)];exact hn
 go_wp2_with fail;go_ret;have F4:=F3;rw[←HN.out] at F4;refine⟨w.heap.size+1,w.heap.size,rfl,⟨⟨N,Nat.le_refl _,h3⟩,⟨λx y hx hy=>?_,F4.free⟩,HN.out.symm,by omega,w1,w2,h1,h2⟩,hb2.trans (K3.toBelow hb2.size (λi hi=>by omega)),by omega,by omega⟩;have:=F4.grid.cel x y hx hy;unfold zec ze7 at this;have pl:=zas hx hy;rw[if_pos (by have:=HN.out;omega)] at this;exact this
end
section
open Go.RowKit
def zcW (L M:Nat->zk) (d s k:Nat):Nat->zk:=λi=>if d<=i/\i<d+k then M (s+(i-d)) else L i
def zbT (M:Nat->zk) (s k:Nat):List zk:=(List.range k).map (λi=>M (s+i))
theorem zbU (M:Nat->zk) (s k:Nat):(zbT M s k).length=k:=by simp[zbT]
theorem zfB (M:Nat->zk) (s k i:Nat) (h:i<k):(zbT M s k)[i]?=some (M (s+i)):=by simp[zbT,h]
theorem zhr (c:zk):c.vals.length=7:=rfl
theorem zks (L:List zk) (j:Nat) (v:Value) (h:(flat L)[j]?=some v):∃c,L[j/7]?=some c/\c.vals[j%7]?=some v:=by
 have hj:j<L.length*7:=by
  rw[←zde];rcases Nat.lt_or_ge j (flat L).length with l|l
  ·exact l
  ·rw[List.getElem?_eq_none l] at h;simp at h
 have hd:j/7<L.length:=by omega
 have hc:=List.getElem?_eq_getElem hd;have hm:j%7<L[j/7].vals.length:=by rw[zhr];omega
 refine⟨_,hc,?_⟩;have:=zju L (j/7) _ hc (j%7) _ (List.getElem?_eq_getElem hm);rw[show j/7*7+j%7=j by omega,h] at this;rw[List.getElem?_eq_getElem hm];exact this.symm
theorem zv.get {w:World} {g o:Nat} {c:zk} (h:zv w g o c) {j:Nat} {v:Value} (hv:c.vals[j]?=some v):w.cell? ⟨g,o+j,none⟩=some v:=by
 obtain⟨h0,h1,h2,h3,h4,h5,h6⟩:=h;match j,hv with
 |0,hv=>simp at hv;subst hv;exact h0
 |1,hv=>simp at hv;subst hv;exact h1
 |2,hv=>simp at hv;subst hv;exact h2
 |3,hv=>simp at hv;subst hv;exact h3
 |4,hv=>simp at hv;subst hv;exact h4
 |5,hv=>simp at hv;subst hv;exact h5
 |6,hv=>simp at hv;subst hv;exact h6
 |j+7,hv=>simp at hv
theorem zay.setCells {w:World} {g n:Nat} {L:Nat->zk} (h:zay w g n L) (M:Nat->zk) (d s k:Nat) (hk:d+k<=n):zay (w.setCells g (d*7) (flat (zbT M s k))) g n (zcW L M d s k):=by
 have len:(flat (zbT M s k)).length=k*7:=by rw[zde,zbU]
 have there:∀j,j<(flat (zbT M s k)).length->(w.cell? ⟨g,d*7+j,none⟩).isSome=true:=by
  intro j hj;rw[len] at hj;have c:=h.cel (d+j/7) (by omega);have hm:j%7<(L (d+j/7)).vals.length:=by rw[zhr];omega
  have:=c.get (List.getElem?_eq_getElem hm);rw[show(d+j/7)*7+j%7=d*7+j by omega] at this;rw[this];rfl
 refine⟨λi hi=>?_,λo=>by rw[World.frozen?_setCells];exact h.free o⟩;unfold zcW;by_cases e:d<=i/\i<d+k
 ·rw[if_pos e];have key:∀j (v:Value),j<7->(M (s+(i-d))).vals[j]?=some v->(w.setCells g (d*7) (flat (zbT M s k))).cell? ⟨g,i*7+j,none⟩=some v:=by
   intro j v hj hv;have hl:(i-d)*7+j<(flat (zbT M s k)).length:=by rw[len];omega
   have a:=World.cell?_setCells_in g (flat (zbT M s k)) (d*7) w there ((i-d)*7+j) hl;rw[show d*7+((i-d)*7+j)=i*7+j by omega] at a;rw[a,←List.getElem?_eq_getElem hl];exact zju _ _ _ (zfB M s k (i-d) (by omega)) j v hv
  exact⟨key 0 _ (by omega) rfl,key 1 _ (by omega) rfl,key 2 _ (by omega) rfl,key 3 _ (by omega) rfl,key 4 _ (by omega) rfl,key 5 _ (by omega) rfl,key 6 _ (by omega) rfl⟩
 ·rw[if_neg e];have key:∀j,j<7->(w.setCells g (d*7) (flat (zbT M s k))).cell? ⟨g,i*7+j,none⟩=w.cell? ⟨g,i*7+j,none⟩:=λj hj=>
   World.cell?_setCells_out g _ _ _ _ (λ_ _=>by rw[len];simp;omega)
  have:=h.cel i hi;simp only[zv] at this ⊢;rw[show i*7=i*7+0 by omega,key 0 (by omega)];simp only[Nat.add_zero];rw[key 1 (by omega),key 2 (by omega),key 3 (by omega),key 4 (by omega),key 5 (by omega),key 6 (by omega)];exact this
theorem zd.setCells {F:Nat->Prop} {a:World} (g:Nat) (hp:g<a.heap.size->F g):∀(vs:List Value) (o:Nat) {b:World},zd F a b->zd F a (b.setCells g o vs)
 |[],_,_,h=>h
 |_::r,o,_,h=>zd.setCells g hp r (o+1) (h.setCell ⟨g,o,none⟩ _ hp)
theorem zjB (L:List zk):∀v∈flat L,v.oneCell'=true:=by
 intro v hv;simp[flat] at hv;obtain⟨c,_,h⟩:=hv;rcases h with h|h|h|h|h|h|h<;>(subst h;rfl)
theorem zjC {P:Program} (w:World) (dT sT ty elem:TypeId) (g gs n ns:Nat) (L M:Nat->zk) (d s dLen dCap sLen sCap k:Nat)
 (hu:P.underlying dT=some (.slice elem)) (hs:(P.info? elem).map (·.size)=some 7) (hn:k=Nat.min sLen dLen) (hd:zay w g n L) (hsrc:zay w gs ns M) (h1:d+k<=n) (h2:s+k<=ns):
 (Builtin.copy_ #[dT,sT] ty #[.slice (some ⟨g,d*7,none⟩) dLen dCap,.slice (some ⟨gs,s*7,none⟩) sLen sCap]).run P w=.ok (goInt k) (w.setCells g (d*7) (flat (zbT M s k))):=by
 have len:(flat (zbT M s k)).length=k*7:=by rw[zde,zbU]
 have hl:=run_loadCells_list (P:=P) w ⟨gs,s*7,none⟩ (flat (zbT M s k)) (λj v hv=>by
  obtain⟨c,hc,hv'⟩:=zks _ _ _ hv;have hj:j/7<k:=by
   rcases Nat.lt_or_ge (j/7) (zbT M s k).length with l|l
   ·rwa [zbU] at l
   ·rw[List.getElem?_eq_none l] at hc;simp at hc
  rw[zfB _ _ _ _ hj] at hc;cases hc;have:=(hsrc.cel (s+j/7) (by omega)).get hv';rw[show(s+j/7)*7+j%7=s*7+j by omega] at this;have e:(⟨gs,s*7,none⟩:Addr).add j=⟨gs,s*7+j,none⟩:=by unfold Addr.add;split<;>simp_all
  rw[e];exact this)
 have hst:=run_storeCells_cells (P:=P) g (d*7) (flat (zbT M s k)) 0 w (λj hj=>by
  rw[len] at hj;have c:=hd.cel (d+j/7) (by omega);have hm:j%7<(L (d+j/7)).vals.length:=by rw[zhr];omega
  have:=c.get (List.getElem?_eq_getElem hm);rw[show(d+j/7)*7+j%7=d*7+0+j by omega] at this;rw[this];rfl) (λj _=>hd.free _) (zjB _)
 rw[len] at hl;cases hq:P.info? elem with
 |none=>simp[hq] at hs
 |some i=>
  have hi:i.size=7:=by simpa[hq] using hs
  simp[Builtin.copy_,run_underlying hu,Builtin.lenOf,Builtin.firstCells,sizeOf,typeInfo,hq,hi,←hn,hl,hst]
theorem zlW (L M:Nat->zk) (d s:Nat):zcW L M d s 0=L:=by
 funext i;unfold zcW;rw[if_neg (by omega)]
theorem zkt {P:Program} (w:World) (dT sT ty elem:TypeId) (d a:Option Addr) (dLen dCap sLen sCap:Nat) (hu:P.underlying dT=some (.slice elem)) (hs:(P.info? elem).map (·.size)=some 7) (hn:Nat.min sLen dLen=0):
 (Builtin.copy_ #[dT,sT] ty #[.slice d dLen dCap,.slice a sLen sCap]).run P w=.ok (goInt 0) w:=by
 cases hq:P.info? elem with
 |none=>simp[hq] at hs
 |some i=>
  have hl:∀(x:Addr),(loadCells x 0).run P w=.ok #[] w:=λx=>by simpa using run_loadCells_list (P:=P) w x [] (by simp)
  cases d<;>cases a<;>simp[Builtin.copy_,run_underlying hu,Builtin.lenOf,Builtin.firstCells,sizeOf,typeInfo,hq,hn,storeCells,hl]
theorem zeu:(Tryz.prog.info? 38).map (·.size)=some 7:=by kernel_rfl
end
section
open Go.RowKit
attribute [local go_sem ↓] Go.wp_at_zero Go.wp_at_succ
def zdg (L:Nat->zk) (m k:Nat) (s:Int) (p:Pn):Nat->zk:=
 if 0<=s then ze7 (zcW L L m (m+s.toNat) (k-s.toNat)) (m+(k-s.toNat)) s.toNat p
 else ze7 (zcW L L (m+(-s).toNat) m (k-(-s).toNat)) m (-s).toNat p
theorem zbV {P:Program} (w:World) (dT sT ty elem:TypeId) (g gs n ns:Nat) (L M:Nat->zk) (dp sp:Option Addr) (d s dLen dCap sLen sCap k:Nat)
 (hu:P.underlying dT=some (.slice elem)) (hs:(P.info? elem).map (·.size)=some 7) (hn:k=Nat.min sLen dLen) (hd:zay w g n L) (hsrc:zay w gs ns M)
 (hpos:0<k->dp=some ⟨g,d*7,none⟩/\sp=some ⟨gs,s*7,none⟩/\d+k<=n/\s+k<=ns):
 ∃w',(Builtin.copy_ #[dT,sT] ty #[.slice dp dLen dCap,.slice sp sLen sCap]).run P w=.ok (goInt k) w'/\zay w' g n (zcW L M d s k)/\zd (λi=>i=g) w w':=by
 by_cases h0:k=0
 ·subst h0;exact⟨w,zkt w dT sT ty elem dp sp dLen dCap sLen sCap hu hs hn.symm,by rw[zlW];exact hd,zd.refl _ _⟩
 ·obtain⟨rfl,rfl,b1,b2⟩:=hpos (by omega);exact⟨_,zjC w dT sT ty elem g gs n ns L M d s dLen dCap sLen sCap k hu hs hn hd hsrc b1 b2,hd.setCells M d s k b1,zd.setCells (F:=λi=>i=g) g (λ_=>rfl) _ _ (zd.refl _ _)⟩
theorem zrV (bg g W H N:Nat) (G:Nat->Nat->zk) (top bot m k c:Nat) (n b s:Int) (p:Pn) (w:World) (h:Zi w bg g W H N G) (ht:top<=bot) (hb:bot<H) (hc:top+c=bot+1) (hm:top*W=m) (hk:c*W=k) (hk1:0<k) (hbt:zcU n (-c) c=b) (hs:b*W=s):
 Calls Tryz.prog 141 #[.pointer (some ⟨bg,0,none⟩),.int .i64 top,.int .i64 bot,.int .i64 n,p.agg] w λe w'=>e=.returned (.tuple #[])/\zay w' g N (zdg (lin W G) m k s p)/\zd (λi=>i=g) w w':=by
 have HG:=zH h;have w1:=h.w1;have w2:=h.w2;have h2:=h.h2;have nle:=h.nle;have hb1:-(c:Int)<=b/\b<=c:=by rw[←hbt];unfold zcU zK ZU;split<;>split<;>omega
 have hkm:m+k<=N:=by
  rw[h.hN,←hm,←hk,←Nat.add_mul];exact Nat.mul_le_mul_right W (by omega)
 have hs1:-(k:Int)<=s/\s<=k:=by
  rw[←hs,←hk,Int.natCast_mul];constructor
  ·rw[←Int.neg_mul];exact Int.mul_le_mul_of_nonneg_right hb1.1 (by omega)
  ·exact Int.mul_le_mul_of_nonneg_right hb1.2 (by omega)
 have e1:(top:Int)*W=m:=by rw[←hm];simp
 have e2:((bot:Int)+1)*W=m+k:=by
  rw[show(bot:Int)+1=top+c by omega,Int.add_mul,e1,←hk];simp
 have e3:(bot:Int)-top+1=c:=by omega
 obtain⟨hs1,hs2⟩:=hs1;obtain⟨hb1,hb2⟩:=hb1;clear h hm hk;go_in;go_wp2_with fail;have hbl:Below w.heap.size w (w.alloc (.cells #[.int .i64 p.f,.int .i64 p.b,.bool p.bo,.bool p.un,.bool p.re] 33)):=(Below.refl _ _).alloc (Nat.le_refl _) _;have G1:=HG.out.below hbl;have K1:zd (λi=>i=g) w (w.alloc (.cells #[.int .i64 p.f,.int .i64 p.b,.bool p.bo,.bool p.un,.bool p.re] 33)):=zd.below _ hbl;have P1:=ZO w p 33;generalize w.alloc (.cells #[.int .i64 p.f,.int .i64 p.b,.bool p.bo,.bool p.un,.bool p.re] 33)=wa at *;have hgb:=HG.out.glt;have np:¬w.heap.size=g:=by omega
 generalize hB:w.heap.size=Bp at *;clear hbl HG hgb;have c0:=G1.c0;obtain⟨cp0,hcp0,c2⟩:=G1.c2;have HG1:=zH G1;have HP1:=zH P1;clear G1 P1;go_quiet ((go_at_call 156;exact Calls.quiet_of_same (zho _ _ _ _)));have G2:Zi (wa.drewN nq) bg g W H N G:=HG1.out.same rfl rfl;have P2:Zf (wa.drewN nq) Bp 0 p:=HP1.out.same rfl;have K2:=K1.drewN nq;generalize wa.drewN nq=wb at *;clear HG1 HP1 K1 c0 c2 hcp0;have c0:=G2.c0;obtain⟨cp,hcp,c2⟩:=G2.c2;have HG2:=zH G2;have HP2:=zH P2;clear G2 P2;go_wp2_with fail;go_quiet (fail);rw[show m+k-m=k by omega];have HF3:Hid (zay (wb.drewN nq) g N (lin W G)):=HG2.out.flat.same rfl;have HP3:Hid (Zf (wb.drewN nq) Bp 0 p):=HP2.out.same rfl;have K3:=K2.drewN nq;generalize wb.drewN nq=wd at *;clear HG2 HP2 K2 c0 c2 hbt e1 e2 e3 hc hb1 hb2 hs;have hk8:k<=800:=by omega
 obtain⟨r,hr⟩:∃r,cp-m=r:=⟨_,rfl⟩;have hkr:k<=r:=by omega
 have hNm:¬cp=m:=by omega
 have hr0:¬r=0:=by omega
 rw[hr];by_cases hs0:0<=s
 ·obtain⟨q,rfl⟩:=Int.eq_ofNat_of_zero_le hs0;obtain⟨z,hz⟩:∃z,k-q=z:=⟨_,rfl⟩;have hq1:q<=k:=by omega
  have hzq:k-z=q:=by omega
  have hqz:q+z=k:=by omega
  have mn:Nat.min z k=z:=Nat.min_eq_left (by omega);have hzi:IntKind.i64.wrap ((k:Int)-(q:Int))=(z:Int):=by rw[zm _ (by omega) (by omega)];omega
  have z3:(z:Int)<=(k:Int):=by omega
  have z1:(0:Int)<=z:=by omega
  have Hqz:=zH hqz;clear hqz;by_cases hq:r=q
  ·have Hz0:Hid (z=0):=by show z=0;omega
   have hrz:¬r=z:=by omega
   subst hq;go_wp2_with fail;obtain⟨w5,hrun,F5,K45⟩:=zbV (P:=Tryz.prog) wd 120 120 3 38 g g N N (lin W G) (lin W G) (some ⟨g,m*7,none⟩) (some ⟨g,m*7,none⟩) m (m+r) k r z 0 z Tryz.underlying120 zeu mn.symm HF3.out HF3.out (λh=>by have:=Hz0.out;omega);rw[hrun];have HF5:=zH F5;have K5:=K3.trans K45 (λ_ _ h=>h);have HP5:=zH<|HP3.out.keep K45 np
   clear hrun F5 K45 HF3 HP3 K3;go_wp2_with fail;obtain⟨p0,p1,p2,p3,p4⟩:=HP5.out;simp only[Nat.zero_add] at p1 p2 p3 p4;have lp5:Bp<w5.heap.size:=World.block_lt_of_cell? _ _ p0;have HF6:Hid (zay w5.drew g N (zcW (lin W G) (lin W G) m (m+r) z)):=HF5.out.same rfl;go_region_held3 (λw'=>w'.cell? ⟨Bp,0,none⟩=some (.int .i64 p.f)/\w'.cell? ⟨Bp,1,none⟩=some (.int .i64 p.b)/\w'.cell? ⟨Bp,2,none⟩=some (.bool p.bo)/\w'.cell? ⟨Bp,3,none⟩=some (.bool p.un)/\w'.cell? ⟨Bp,4,none⟩=some (.bool p.re)) (simp[*]) (first|(go_at_call 148;refine(zhp g N (m+z) r (r-z) _ _ p _ HF6.out (λ_=>by rw[show(m+z)*7=m*7+z*7 by omega]) (by omega) nle (by omega)).mono ?_;rintro e w6 ⟨rfl,F6,K6⟩;have e2:=keepC K6 lp5 np));go_wp2_with fail;refine bodyPost_ret (v:=.tuple #[]) (by simp[results,Tryz.results141,go_sem]) rfl ⟨rfl,?_,(K5.drew).trans K6 (λ_ _ h=>h)⟩;unfold zdg;rw[if_pos (by omega),Int.toNat_natCast,hz];exact F6
  ·go_wp2_with fail;obtain⟨w5,hrun,F5,K45⟩:=zbV (P:=Tryz.prog) wd 120 120 3 38 g g N N (lin W G) (lin W G) (some ⟨g,m*7,none⟩) (some ⟨g,m*7+q*7,none⟩) m (m+q) k r z (r-q) z Tryz.underlying120 zeu mn.symm HF3.out HF3.out (λh=>⟨rfl,by rw[show(m+q)*7=m*7+q*7 by omega],by omega,by have:=Hqz.out;omega⟩);rw[hrun];have HF5:=zH F5;have K5:=K3.trans K45 (λ_ _ h=>h);have HP5:=zH<|HP3.out.keep K45 np
   clear hrun F5 K45 HF3 HP3 K3;go_wp2_with fail;obtain⟨p0,p1,p2,p3,p4⟩:=HP5.out;simp only[Nat.zero_add] at p1 p2 p3 p4;have lp5:Bp<w5.heap.size:=World.block_lt_of_cell? _ _ p0;have HF6:Hid (zay w5.drew g N (zcW (lin W G) (lin W G) m (m+q) z)):=HF5.out.same rfl;by_cases hrz:r=z
   ·have Hq0:Hid (q=0):=by show q=0;omega
    go_region_held3 (λw'=>w'.cell? ⟨Bp,0,none⟩=some (.int .i64 p.f)/\w'.cell? ⟨Bp,1,none⟩=some (.int .i64 p.b)/\w'.cell? ⟨Bp,2,none⟩=some (.bool p.bo)/\w'.cell? ⟨Bp,3,none⟩=some (.bool p.un)/\w'.cell? ⟨Bp,4,none⟩=some (.bool p.re)) (simp[*]) (first|(go_at_call 148;refine(zhp g N (m+z) q _ _ _ p _ HF6.out (λh=>by have:=Hq0.out;omega) (by omega) nle (by omega)).mono ?_;rintro e w6 ⟨rfl,F6,K6⟩;have e2:=keepC K6 lp5 np));go_wp2_with fail;refine bodyPost_ret (v:=.tuple #[]) (by simp[results,Tryz.results141,go_sem]) rfl ⟨rfl,?_,(K5.drew).trans K6 (λ_ _ h=>h)⟩;unfold zdg;rw[if_pos (by omega),Int.toNat_natCast,hz];exact F6
   ·skip
    go_region_held3 (λw'=>w'.cell? ⟨Bp,0,none⟩=some (.int .i64 p.f)/\w'.cell? ⟨Bp,1,none⟩=some (.int .i64 p.b)/\w'.cell? ⟨Bp,2,none⟩=some (.bool p.bo)/\w'.cell? ⟨Bp,3,none⟩=some (.bool p.un)/\w'.cell? ⟨Bp,4,none⟩=some (.bool p.re)) (simp[*]) (first|(go_at_call 148;refine(zhp g N (m+z) q (r-z) _ _ p _ HF6.out (λ_=>by rw[show(m+z)*7=m*7+z*7 by omega]) (by omega) nle (by omega)).mono ?_;rintro e w6 ⟨rfl,F6,K6⟩;have e2:=keepC K6 lp5 np));go_wp2_with fail;refine bodyPost_ret (v:=.tuple #[]) (by simp[results,Tryz.results141,go_sem]) rfl ⟨rfl,?_,(K5.drew).trans K6 (λ_ _ h=>h)⟩;unfold zdg;rw[if_pos (by omega),Int.toNat_natCast,hz];exact F6
 ·obtain⟨q,rfl⟩:∃q:Nat,s = -(q:Int):=⟨(-s).toNat,by omega⟩;obtain⟨z,hz⟩:∃z,k-q=z:=⟨_,rfl⟩;have hq1:q<=k:=by omega
  have hq0:0<q:=by omega
  have mn:Nat.min k z=z:=Nat.min_eq_right (by omega);have hqi:IntKind.i64.wrap (-(-(q:Int)))=(q:Int):=by rw[zm _ (by omega) (by omega)];omega
  have hqj:IntKind.i64.wrap (q:Int)=(q:Int):=zm _ (by omega) (by omega);have z3:(q:Int)<=(k:Int):=by omega
  have z1:(0:Int)<=q:=by omega
  have z4:(q:Int)<=(r:Int):=by omega
  by_cases hq:r=q
  ·have Hz0:Hid (z=0):=by show z=0;omega
   subst hq;go_wp2_with fail;obtain⟨w5,hrun,F5,K45⟩:=zbV (P:=Tryz.prog) wd 120 120 3 38 g g N N (lin W G) (lin W G) (some ⟨g,m*7,none⟩) (some ⟨g,m*7,none⟩) (m+r) m z 0 k r z Tryz.underlying120 zeu mn.symm HF3.out HF3.out (λh=>by have:=Hz0.out;omega);rw[hrun];have HF5:=zH F5;have K5:=K3.trans K45 (λ_ _ h=>h);have HP5:=zH<|HP3.out.keep K45 np
   clear hrun F5 K45 HF3 HP3 K3;go_wp2_with fail;obtain⟨p0,p1,p2,p3,p4⟩:=HP5.out;simp only[Nat.zero_add] at p1 p2 p3 p4;have lp5:Bp<w5.heap.size:=World.block_lt_of_cell? _ _ p0;have HF6:Hid (zay w5.drew g N (zcW (lin W G) (lin W G) (m+r) m z)):=HF5.out.same rfl;go_region_held3 (λw'=>w'.cell? ⟨Bp,0,none⟩=some (.int .i64 p.f)/\w'.cell? ⟨Bp,1,none⟩=some (.int .i64 p.b)/\w'.cell? ⟨Bp,2,none⟩=some (.bool p.bo)/\w'.cell? ⟨Bp,3,none⟩=some (.bool p.un)/\w'.cell? ⟨Bp,4,none⟩=some (.bool p.re)) (simp[*]) (first|(go_at_call 148;refine(zhp g N m r r _ _ p _ HF6.out (λ_=>rfl) (by omega) nle (by omega)).mono ?_;rintro e w6 ⟨rfl,F6,K6⟩;have e2:=keepC K6 lp5 np));go_wp2_with fail;go_end0;refine⟨rfl,?_,(K5.drew).trans K6 (λ_ _ h=>h)⟩;unfold zdg;rw[if_neg (by omega),Int.neg_neg,Int.toNat_natCast,hz];exact F6
  ·go_wp2_with fail;obtain⟨w5,hrun,F5,K45⟩:=zbV (P:=Tryz.prog) wd 120 120 3 38 g g N N (lin W G) (lin W G) (some ⟨g,m*7+q*7,none⟩) (some ⟨g,m*7,none⟩) (m+q) m z (r-q) k r z Tryz.underlying120 zeu mn.symm HF3.out HF3.out (λh=>⟨by rw[show(m+q)*7=m*7+q*7 by omega],rfl,by omega,by omega⟩);rw[hrun];have HF5:=zH F5;have K5:=K3.trans K45 (λ_ _ h=>h);have HP5:=zH<|HP3.out.keep K45 np
   clear hrun F5 K45 HF3 HP3 K3;go_wp2_with fail;obtain⟨p0,p1,p2,p3,p4⟩:=HP5.out;simp only[Nat.zero_add] at p1 p2 p3 p4;have lp5:Bp<w5.heap.size:=World.block_lt_of_cell? _ _ p0;have HF6:Hid (zay w5.drew g N (zcW (lin W G) (lin W G) (m+q) m z)):=HF5.out.same rfl;go_region_held3 (λw'=>w'.cell? ⟨Bp,0,none⟩=some (.int .i64 p.f)/\w'.cell? ⟨Bp,1,none⟩=some (.int .i64 p.b)/\w'.cell? ⟨Bp,2,none⟩=some (.bool p.bo)/\w'.cell? ⟨Bp,3,none⟩=some (.bool p.un)/\w'.cell? ⟨Bp,4,none⟩=some (.bool p.re)) (simp[*]) (first|(go_at_call 148;refine(zhp g N m q r _ _ p _ HF6.out (λ_=>rfl) (by omega) nle (by omega)).mono ?_;rintro e w6 ⟨rfl,F6,K6⟩;have e2:=keepC K6 lp5 np));go_wp2_with fail;go_end0;refine⟨rfl,?_,(K5.drew).trans K6 (λ_ _ h=>h)⟩;unfold zdg;rw[if_neg (by omega),Int.neg_neg,Int.toNat_natCast,hz];exact F6
end
section
open Go.RowKit
theorem zf5 {W x:Nat} (y t:Nat) (hx:x<W):y*W+x<t*W↔y<t:=by
 constructor
 ·intro h;rcases Nat.lt_or_ge y t with l|l
  ·exact l
  ·have:=Nat.mul_le_mul_right W l;omega
 ·intro h;have:=Nat.mul_le_mul_right W (show y+1<=t from h);rw[Nat.add_mul] at this;omega
theorem znO {W H:Nat} (G:Nat->Nat->zk) (top bot m k c:Nat) (n b s:Int) (p:Pn) (hW:1<=W) (ht:top<=bot) (hc:top+c=bot+1) (hm:top*W=m) (hk:c*W=k) (hbt:zcU n (-c) c=b) (hs:b*W=s):
 ZX W H (zec W (zdg (lin W G) m k s p)) (zo top bot n p G):=by
 have hb1:-(c:Int)<=b/\b<=c/\(b=n\/(n<b/\b = -(c:Int))\/(b<n/\b=c)):=by
  rw[←hbt];unfold zcU zK ZU;split<;>split<;>omega
 obtain⟨hb1,hb2,hb3⟩:=hb1;intro x y hx _;have C:=λt=>zf5 (W:=W) (x:=x) y t hx;have hmk:m+k=(bot+1)*W:=by rw[←hm,←hk,←Nat.add_mul,hc]
 unfold zec zdg zo;have c1:=C top;have c2:=C (bot+1);rw[hm] at c1;rw[←hmk] at c2;by_cases h0:0<=b
 ·obtain⟨d,rfl⟩:=Int.eq_ofNat_of_zero_le h0;have hs':s=((d*W:Nat):Int):=by rw[←hs];simp
  have hs0:0<=s:=by omega
  rw[if_pos hs0,hs',Int.toNat_natCast];have hz:k-d*W=(c-d)*W:=by rw[←hk,Nat.sub_mul]
  have hz2:m+(c-d)*W=(top+(c-d))*W:=by rw[Nat.add_mul,hm]
  have c3:=C (top+(c-d));have hdk:d*W<=k:=by rw[←hk];exact Nat.mul_le_mul_right W (by omega)
  rw[hz];unfold ze7 zcW;by_cases a1:top<=y/\y<=bot
  ·rw[if_pos (show(top:Int)<=y/\(y:Int)<=bot by omega)];by_cases a2:y<top+(c-d)
   ·rw[if_neg (by omega),if_pos (by omega)];have e:m+d*W+(y*W+x-m)=(y+d)*W+x:=by rw[Nat.add_mul];omega
    rw[e,zbo G (y+d) hx];have hn:n=d:=by omega
    rw[if_pos (by omega),hn,show((y:Int)+d).toNat=y+d by omega]
   ·rw[if_pos (by omega),if_neg (by omega)]
  ·rw[if_neg (show¬((top:Int)<=y/\(y:Int)<=bot) by omega),if_neg (by omega),if_neg (by omega),zbo G y hx]
 ·obtain⟨d,hd⟩:∃d:Nat,b = -(d:Int):=⟨(-b).toNat,by omega⟩;subst hd;have hd1:1<=d:=by omega
  have hs':s = -((d*W:Nat):Int):=by rw[←hs];simp[Int.neg_mul]
  have hdW:=Nat.mul_le_mul hd1 hW;rw[if_neg (by omega),hs',Int.neg_neg,Int.toNat_natCast];have hz:k-d*W=(c-d)*W:=by rw[←hk,Nat.sub_mul]
  have hz2:m+d*W=(top+d)*W:=by rw[Nat.add_mul,hm]
  have c3:=C (top+d);have hdk:d*W<=k:=by rw[←hk];exact Nat.mul_le_mul_right W (by omega)
  unfold ze7 zcW;by_cases a1:top<=y/\y<=bot
  ·rw[if_pos (show(top:Int)<=y/\(y:Int)<=bot by omega)];by_cases a2:y<top+d
   ·rw[if_pos (by omega),if_neg (by omega)]
   ·rw[if_neg (by omega),if_pos (by omega)];have e:m+(y*W+x-(m+d*W))=(y-d)*W+x:=by rw[Nat.sub_mul];have:=Nat.mul_le_mul_right W (show d<=y by omega);omega
    rw[e,zbo G (y-d) hx];have hn:n = -(d:Int):=by omega
    rw[if_pos (by omega),hn,show((y:Int) + -(d:Int)).toNat=y-d by omega]
  ·rw[if_neg (show¬((top:Int)<=y/\(y:Int)<=bot) by omega),if_neg (by omega),if_neg (by omega),zbo G y hx]
theorem zku (bg g W H N:Nat) (G:Nat->Nat->zk) (top bot n:Int) (p:Pn) (w:World) (h:Zi w bg g W H N G) (h0:0<=top) (ht:top<=bot) (hb:bot<H):
 Calls Tryz.prog 141 #[.pointer (some ⟨bg,0,none⟩),.int .i64 top,.int .i64 bot,.int .i64 n,p.agg] w λe w'=>e=.returned (.tuple #[])/\Zi w' bg g W H N (zo top bot n p G)/\zd (λi=>i=g) w w':=by
 obtain⟨t,rfl⟩:=Int.eq_ofNat_of_zero_le h0;obtain⟨b,rfl⟩:=Int.eq_ofNat_of_zero_le (Int.le_trans h0 ht);obtain⟨c,hc⟩:∃c,t+c=b+1:=⟨b+1-t,by omega⟩;refine(zrV bg g W H N G t b _ _ c n _ _ p w h (by omega) (by omega) hc rfl rfl ?_ rfl rfl).mono ?_
 ·exact Nat.mul_pos (by omega) h.w1
 ·rintro e w' ⟨rfl,F,K⟩;exact⟨rfl,h.with F K (znO G t b _ _ c n _ _ p h.w1 (by omega) hc rfl rfl rfl rfl),K⟩
end
section
open Go.RowKit
attribute [local go_sem ↓] Go.wp_at_zero Go.wp_at_succ
def zbG (W H W':Nat) (G:Nat->Nat->zk) (j:Nat):Nat->Nat->zk:=λx y=>if y<j then ZJ W H W' G x y else blk Pn.plain
theorem znP {W H W' H':Nat} (G:Nat->Nat->zk) {j:Nat} (hj:j=H'\/j=H):ZX W' H' (zbG W H W' G j) (ZJ W H W' G):=by
 intro x y _ hy;unfold zbG;by_cases h:y<j
 ·rw[if_pos h]
 ·rw[if_neg h];unfold ZJ zfA;have:¬(x<W/\y<H):=by omega
  simp only[if_neg this];rw[if_neg (by simp[blk])]
theorem zlX {W H W' H' j c:Nat} {G K:Nat->Nat->zk} (hw:Wf W H G) (hK:∀x,x<W->K x j=G x j) (hj:j<H) (hc:(c=W'/\c<=W)\/(c=W/\c<=W')) (c1:1<=c):
 ZX W' H' (zec W' (zcW (lin W' (zbG W H W' G j)) (zet (lin W K) (j*W) W 0 c) (j*W') (j*W) c)) (zbG W H W' G (j+1)):=by
 intro x y hx _;unfold zec zcW;have cm:=zf5 (W:=W') (x:=x) y j hx;have cm2:=zf5 (W:=W') (x:=x) y (j+1) hx;rw[Nat.add_mul] at cm2;by_cases hy:y=j
 ·subst hy;rw[show zbG W H W' G (y+1) x y=ZJ W H W' G x y from if_pos (by omega)];by_cases hxc:x<c
  ·rw[if_pos (by omega),show y*W+(y*W'+x-y*W')=y*W+x by omega];unfold zet;rw[zdx (c:=0) (.inl rfl)];have hL:lin W K (y*W+x)=G x y:=by rw[zbo K y (by omega)];exact hK x (by omega)
   unfold ZJ zfA;have hin:x<W/\y<H:=by omega
   simp only[if_pos hin];by_cases hl:x+1=c
   ·by_cases hcW:c<W
    ·have hLc:lin W K (y*W+c)=G c y:=by rw[zbo K y hcW];exact hK c hcW
     have:=ziF (L:=lin W K) (m:=y*W) c1 hcW;rw[show y*W+c-1=y*W+x by omega,hLc,hL] at this;rw[this];by_cases e:(G c y).p=2
     ·have t:=hw.tail c y hcW hj e;rw[show c-1=x by omega] at t;rw[if_pos e,if_pos ⟨by omega,by rw[t.2]⟩]
     ·rw[if_neg e,if_neg (λq=>e ?_)];have t:=hw.head x y (by omega) hj q.2;rw[hl] at t;rw[t.2]
    ·rw[zdx (c:=c) (.inr (by omega)),hL,if_neg (λq=>?_)];have t:=hw.head x y (by omega) hj q.2;omega
   ·rw[zcv (by omega) (by omega),hL,if_neg (by omega)]
  ·rw[if_neg (by omega),zbo _ y hx];unfold ZJ zfA;have:¬(x<W/\y<H):=by omega
   simp only[if_neg this];unfold zbG;rw[if_neg (by omega),if_neg (by simp[blk])]
 ·rw[if_neg (by omega),zbo _ y hx];unfold zbG;by_cases h:y<j
  ·rw[if_pos h,if_pos (by omega)]
  ·rw[if_neg h,if_neg (by omega)]
theorem znQ {W j c y x:Nat} {K:Nat->Nat->zk} (hc:c<=W) (hx:x<W) (hy:j<y):zec W (zet (lin W K) (j*W) W 0 c) x y=K x y:=by
 unfold zec zet;rw[zdx (c:=0) (.inl rfl)];have:=Nat.mul_le_mul_right W (show j+1<=y from hy);rw[Nat.add_mul] at this;by_cases e:c<W
 ·rw[zcv (by omega) (by omega),zbo K y hx]
 ·rw[zdx (.inr (by omega)),zbo K y hx]
theorem ztv (bg g W H N W' H':Nat) (G:Nat->Nat->zk) (w:World) (h:Zi w bg g W H N G) (hw:Wf W H G) (w1:1<=W') (w2:W'<=40) (h1:1<=H') (h2:H'<=20):
 Calls Tryz.prog 119 #[.pointer (some ⟨bg,0,none⟩),.int .i64 W',.int .i64 H'] w λe w'=>∃g',e=.returned (.tuple #[])/\Zi w' bg g' W' H' (H'*W') (ZJ W H W' G)/\zd (λi=>i=bg\/i=g) w w'/\w.heap.size<=g':=by
 have HG:=zH h;have c0:=h.c0;have c1:=h.c1;have wo1:=h.w1;have wo2:=h.w2;have ho1:=h.h1;have ho2:=h.h2;clear h;go_in;go_wp2_with fail;go_at_call 108;refine(zrU W' H' _ w1 w2 h1 h2).mono ?_;rintro e wa ⟨bn,gn,rfl,GN,hb,hbn,hgn⟩;have GO:=HG.out.below hb;have Hlt:=HG.out.lt;have Hglt:=HG.out.glt;clear c0 c1 HG;have c0:=GO.c0;have c1:=GO.c1;have HGO:=zH GO;have HGN:=zH GN;clear GO GN;obtain⟨c,hc⟩:∃c:Nat,ZU W' W=c:=⟨(ZU W' W).toNat,by unfold ZU;split<;>omega⟩;obtain⟨l,hl⟩:∃l:Nat,ZU H' H=l:=⟨(ZU H' H).toNat,by unfold ZU;split<;>omega⟩;have hc1:(c=W'/\c<=W)\/(c=W/\c<=W'):=by unfold ZU at hc;split at hc<;>omega
 have hl1:(l=H'/\l<=H)\/(l=H/\l<=H'):=by unfold ZU at hl;split at hl<;>omega
 go_wp2_with (first|(go_at_call 138;refine sM (zce _ _ _) ?_;first|rw[hc]|rw[hl]));go_loopw[8,24] (λ_ i w'=>∃(j:Nat) (K:Nat->Nat->zk),j<=l/\i=.int .i64 j/\Zi w' bg g W H N K/\(∀x y,x<W->j<=y->y<H->K x y=G x y)/\Zi w' bn gn W' H' (H'*W') (zbG W H W' G j)/\zd (λi=>i=g) w w') (λ_ i _=>l-(intOf i).toNat)
 case atStart=>exact⟨0,G,by omega,rfl,HGO.out,λ_ _ _ _ _=>rfl,HGN.out.congr (λx y _ _=>by unfold zbG;rw[if_neg (by omega)]),zd.below _ hb⟩
 case round=>
  obtain⟨j,K,hj,rfl,hO,hK,hN,hKp⟩:=hrel;have HO1:=zH hO;have HN1:=zH hN;have HK:=zH hK;clear hO hN hK HGO HGN c0 c1;by_cases hlt:j<l
  ·obtain⟨m,hm⟩:∃m,j*W=m:=⟨_,rfl⟩;obtain⟨m',hm'⟩:∃m',j*W'=m':=⟨_,rfl⟩;have hmw:m+W<=N:=by rw[←hm,HO1.out.hN];have:=Nat.mul_le_mul_right W (show j+1<=H by omega);rw[Nat.add_mul] at this;omega
   have hmw':m'+W'<=H'*W':=by rw[←hm'];have:=Nat.mul_le_mul_right W' (show j+1<=H' by omega);rw[Nat.add_mul] at this;omega
   obtain⟨N',hN'⟩:∃N',H'*W'=N':=⟨_,rfl⟩;rw[hN'] at HN1 hmw';obtain⟨cn,hcn,hdn⟩:=HN1.out.c2;have Hdn:=zH hdn;clear hdn;obtain⟨r',hr'⟩:∃r',m'+r'=cn:=⟨cn-m',by omega⟩;have hne:gn≠g:=by omega
   have hneb:bn≠g:=by omega
   go_wp2_with fail;go_at_call 154;refine(ztr bn gn W' H' N' _ j m' r' _ HN1.out (by omega) hm' cn hcn Hdn.out hr').mono ?_;rintro e w2 ⟨rfl,hb2⟩;have HO2:=zH<|HO1.out.below hb2
   have HN2:=zH<|HN1.out.below hb2
   have K2:=hKp.thenBelow hb2;obtain⟨co,hco,hdo⟩:=HO2.out.c2;have Hdo:=zH hdo;clear hdo;obtain⟨r,hr⟩:∃r,m+r=co:=⟨co-m,by omega⟩;clear HO1 HN1 hKp hb2;go_wp2_with fail;go_at_call 155;refine(znb bg g W H N K 0 c j m r _ HO2.out (by omega) hm co hco Hdo.out hr (by omega) (by omega)).mono ?_;rintro e w3 ⟨rfl,F3,K23⟩;have HF3:=zH F3;have HN3:=zH<|HN2.out.same (K23.block _ HN2.out.lt hneb) (K23.block _ HN2.out.glt hne)
   have HO3:=zH<|HO2.out.with F3 K23 (λ_ _ _ _=>rfl)
   have K3:=K2.trans K23 (λ_ _ h=>h);clear F3 K23 HO2 HN2 K2;have hmn:Nat.min c W'=c:=Nat.min_eq_left (by omega);go_wp2_with fail;have FN3:=HN3.out.flat;obtain⟨w5,hrun,F5,K35⟩:=zbV (P:=Tryz.prog) w3 120 120 3 38 gn g N' N (lin W' (zbG W H W' G j)) (zet (lin W K) m W 0 c) (some ⟨gn,m'*7,none⟩) (some ⟨g,m*7,none⟩) m' m W' r' c r c Tryz.underlying120 zeu hmn.symm FN3 HF3.out (λ_=>⟨rfl,rfl,by omega,by omega⟩);rw[hrun];have HO5:=zH<|HO3.out.same (K35.block _ HO3.out.lt (by omega)) (K35.block _ HO3.out.glt (by omega))
   have HN5:Hid (Zi w5 bn gn W' H' N' (zbG W H W' G (j+1))):=by
    refine HN3.out.with F5 K35 ?_;have:=zlX (W:=W) (H:=H) (W':=W') (H':=H') (j:=j) (c:=c) (G:=G) (K:=K) hw (λx hx=>HK.out x j hx (Nat.le_refl _) (by omega)) (by omega) hc1 (by omega);rw[hm,hm'] at this;exact this
   have K5:=K3.trans K35 (λi hi h=>by omega);clear hrun FN3 F5 K35 HF3 HN3 HO3 K3;go_wp2_with fail;refine⟨⟨j+1,zec W (zet (lin W K) m W 0 c),by omega,by simp,HO5.out,λx y hx hy hyH=>?_,?_,K5⟩,by simp only[intOf];omega⟩
   ·rw[←hm,znQ (by omega) hx (by omega)];exact HK.out x y hx (by omega) hyH
   ·rw[hN'];exact HN5.out
  ·have hjl:j=l:=by omega
   subst hjl;have n0:=HN1.out.c0;have n1:=HN1.out.c1;obtain⟨cn,hcn,n2⟩:=HN1.out.c2;have o0:=HO1.out.c0;have o1:=HO1.out.c1;obtain⟨co,hco,hob⟩:=HO1.out.blk;have o2:wr.cell? ⟨bg,2,none⟩=some (.slice (some ⟨g,0,none⟩) N co):=by rw[za hob];rfl
   have fz:=ze hob;have hbb:bn≠bg:=by omega
   go_wp2_with fail;go_end0;have hgb:gn≠bg:=by omega
   refine⟨gn,rfl,Zi.congr (G:=zbG W H W' G j) ⟨?_,?_,rfl,by omega,w1,w2,h1,h2⟩ (znP G (by omega)),?_,hgn⟩
   ·exact⟨cn,hcn,by rw[zg (zg (zg hob 0 _) 1 _) 2 _];rfl⟩
   ·refine HN1.out.grid.same ?_;rw[Go.RowKit.Below.heap_setCell _ _ _ _ hgb,Go.RowKit.Below.heap_setCell _ _ _ _ hgb,Go.RowKit.Below.heap_setCell _ _ _ _ hgb]
   ·have Kq:zd (λi=>i=bg\/i=g) w wr:=hKp.mono (λ_ h=>Or.inr h);exact((Kq.setCell ⟨bg,0,none⟩ _ (λ_=>Or.inl rfl)).setCell ⟨bg,1,none⟩ _ (λ_=>Or.inl rfl)).setCell ⟨bg,2,none⟩ _ (λ_=>Or.inl rfl)
end
end Go.Proofs.YtjlfibhbfdckpaaGreatDoor
