import Derived.Test.YtjlfibhbfdckpaaGreatDoorV24
namespace Go.Proofs.YtjlfibhbfdckpaaGreatDoor
set_option maxHeartbeats 64000000
set_option maxRecDepth 100000
section
open Go.RowKit
attribute [local go_sem ↓] Go.wp_at_zero Go.wp_at_succ
theorem zpQ (ib cap b:Nat) (u:Value) (hu:u.oneCell'=true) (w:World) (hrow:w.ownsRow 2 111 1 (.slice (some ⟨ib,0,none⟩) 0 cap) 0 []) (hb:w.heap[b]?=some (.cells #[u] 111)) (h2:2<=w.heap.size):
 Calls Tryz.prog 153 #[.slice (some ⟨ib,0,none⟩) 0 cap,.int .i64 0,.slice (some ⟨b,0,none⟩) 1 1] w λe w'=>∃g cap',e=.returned (.slice (some ⟨g,0,none⟩) 1 cap')/\w'.ownsRow 2 111 1 (.slice (some ⟨g,0,none⟩) 1 cap') 1 [u]/\zd (λi=>i=ib) w w'/\(g=ib\/w.heap.size<=g):=by
 have hcap:cap<=9223372036854775807:=by
  rcases hrow.2 with⟨h0,_⟩|⟨g,c,cur,e,_,_,_,hm,_⟩
  ·simp at h0
  ·obtain⟨_,rfl⟩:ib=g/\cap=c:=by simpa using e
   exact hm
 have Hrow:=zH hrow;have Hb:=zH hb;clear hrow hb;go_in;go_wp2_with ((at_builtin;refine zee _ (by rfl) (.tmp 23) (.tmp 24) (by rfl) (.slice (some ⟨ib,0,none⟩) 0 cap) [] u 0 rfl (by rfl) Hrow.out b (by rfl) Hb.out hu (by omega) h2 ?_;intro g7 cap7 w7 hr7 hg7 ho7 hl7));go_ret;refine⟨g7,cap7,rfl,hr7,⟨hg7.os,hg7.tape,hg7.output,hg7.size,λk hk hF=>hg7.block k hk (λe=>hF (by simpa[Value.ownBlock] using e))⟩,?_⟩;rcases ho7 with h|h
 ·exact .inl (by
   have:ib=g7:=by simpa[Value.ownBlock] using h
   exact this.symm)
 ·exact .inr (by omega)
theorem zr9 (ib cap n b:Nat) (ads:List (Option Addr)) (u:Value) (hu:u.oneCell'=true) (w:World) (hrow:w.ownsRow 2 111 1 (.slice (some ⟨ib,0,none⟩) n cap) n (ads.map Value.pointer)) (hroom:n+1<=cap) (hb:w.heap[b]?=some (.cells #[u] 111)) (hne:b≠ib) (h2:2<=w.heap.size):
 Calls Tryz.prog 153 #[.slice (some ⟨ib,0,none⟩) n cap,.int .i64 0,.slice (some ⟨b,0,none⟩) 1 1] w λe w'=>∃g cap',e=.returned (.slice (some ⟨g,0,none⟩) (n+1:Nat) cap')/\w'.ownsRow 2 111 1 (.slice (some ⟨g,0,none⟩) (n+1) cap') (n+1) (u::ads.map Value.pointer)/\zd (λi=>i=ib) w w'/\(g=ib\/w.heap.size<=g):=by
 by_cases hn:n=0
 ·subst hn;have h0:ads=[]:=by have:=hrow.1;simpa using this
  subst h0;exact zpQ ib cap b u hu w hrow hb h2
 ·refine(zpP ib cap n b ads u hu w hrow (by omega) hroom hb hne).mono ?_;rintro e w' ⟨rfl,r,k⟩;exact⟨ib,cap,rfl,r,k,.inl rfl⟩
def zcK (L:List Wn) (v:Wn):List Wn:=match zG L v.n with|[]=>[v]|r::t=>r::v::t
section
variable {M:Mm} {L:List Wn} {last:Int} {N:Nat} {s:Rs} {t:Pt}
theorem zkB {v u:Wn}:u∈zcK L v↔u=v\/u∈zG L v.n:=by
 unfold zcK;split
 ·rename_i e;rw[e];simp
 ·rename_i r t e;rw[e];simp only[List.mem_cons];exact or_left_comm
theorem ziP {v:Wn} {m:Int} (h:v.par≠m):zy (zcK L v) m=zy (zG L v.n) m:=by
 unfold zcK;split
 ·rename_i e;rw[e];simp[zy,h]
 ·rename_i r t e;rw[e];unfold zy;by_cases hr:r.par=m
  ·rw[List.filter_cons_of_pos (by simpa using hr),List.filter_cons_of_neg (by simpa using h),List.filter_cons_of_pos (by simpa using hr)]
  ·rw[List.filter_cons_of_neg (by simpa using hr),List.filter_cons_of_neg (by simpa using h),List.filter_cons_of_neg (by simpa using hr)]
theorem zl5 {v:Wn} {m:Int} (hm:v.par=m) (h0:∀r T,L=r::T->r.par≠m) (hv:∀r T,L=r::T->r.n≠v.n):zy (zcK L v) m=v::zy (zG L v.n) m:=by
 unfold zcK;split
 ·rename_i e;rw[e];simp[zy,hm]
 ·rename_i r t e;rw[e];have hr:r.par≠m:=by
   cases L with
   |nil=>simp[zG] at e
   |cons a T=>
    have h1:zG (a::T) v.n=a::zG T v.n:=List.filter_cons_of_pos (by simpa using hv a T rfl);rw[h1] at e;obtain rfl:a=r:=by injection e
    exact h0 a T rfl
  unfold zy;rw[List.filter_cons_of_neg (by simpa using hr),List.filter_cons_of_pos (by simpa using hm),List.filter_cons_of_neg (by simpa using hr)]
theorem zsa (ok:ZK L last) {w w1 w3:World} (h:zI w M L last N s t) (v o:Wn) (hv:v∈L) (ho:o∈L) (hp:v.par=o.n) (hvo:v.n≠o.n) (ib cap n g cap':Nat) (hroot:∀r T,L=r::T->r.par≠o.n/\r.n≠v.n) (hib:(M.s o.n).ownBlock=some ib)
 (D1:zI w1 (M.setS o.n (.slice (some ⟨ib,0,none⟩) n cap)) (zG L v.n) last N s t) (V1:Z9 w1 v (M.b v.n) (M.c v.n) (M.g v.n) (M.pp v.par) (M.s v.n) (M.ptrs (zy L v.n))) (O1:Z9 w1 o (M.b o.n) (M.c o.n) (M.g o.n) (M.pp o.par) (.slice (some ⟨ib,0,none⟩) n cap) (M.ptrs (zy (zG L v.n) o.n))) (K1:zd (M.own L) w w1)
 (R3:w3.ownsRow 2 111 1 (.slice (some ⟨g,0,none⟩) (n+1) cap') (n+1) (M.ptr v.n::M.ptrs (zy (zG L v.n) o.n))) (K3:zd (λi=>i=ib) w1 w3) (hg:g=ib\/w1.heap.size<g):
 zad M L (zcK L v) last N s t w (.tuple #[]) (.returned (.tuple #[])) (w3.setCell ⟨M.b o.n,6,none⟩ (.slice (some ⟨g,0,none⟩) (n+1) cap')):=by
 obtain⟨rk,K,T⟩:=ok.tree;have hso:(Value.slice (some ⟨ib,0,none⟩) n cap).ownBlock=(M.s o.n).ownBlock:=by rw[hib];rfl
 have hblk:=zdB (M:=M) hso;have ho1:=Za.2 ⟨ho,λe=>hvo e.symm⟩;have lo:=O1.lt;have hz:=K1.size;have n2:ib≠M.b o.n:=λe=>by
  have:=h.inj (.win o.n 3) (.win o.n 0) ib ⟨by omega,o,ho,rfl⟩ ⟨by omega,o,ho,rfl⟩ hib (by rw[e];rfl);simp at this
 have hgo:g≠M.b o.n:=by rcases hg with e|e;(rw[e];exact n2);omega
 have O3:=(K3.block _ lo (λe=>n2 e.symm)).trans O1.blk;have k4:∀i,i<w1.heap.size->i≠M.b o.n->i≠ib->(w3.setCell ⟨M.b o.n,6,none⟩ (.slice (some ⟨g,0,none⟩) (n+1) cap')).heap[i]?=w1.heap[i]?:=λi hi e1 e2=>(Below.heap_setCell _ _ _ _ e1).trans (K3.block i hi e2);have kk:∀(u:Wn) (k i:Nat),u∈L->k<4->M.blk (.win u.n k)=some i->¬(u.n=o.n/\(k=0\/k=3))->(w3.setCell ⟨M.b o.n,6,none⟩ (.slice (some ⟨g,0,none⟩) (n+1) cap')).heap[i]?=w1.heap[i]?:=λu k i hu hk hb hn=>
  k4 i (Nat.lt_of_lt_of_le (h.lt ⟨.win u.n k,⟨hk,u,hu,rfl⟩,hb⟩) hz) (λe=>by
   have:=h.inj (.win u.n k) (.win o.n 0) i ⟨hk,u,hu,rfl⟩ ⟨by omega,o,ho,rfl⟩ hb (by rw[e];rfl);injection this with e1 e2;exact hn ⟨e1,.inl e2⟩) (λe=>by
   have:=h.inj (.win u.n k) (.win o.n 3) i ⟨hk,u,hu,rfl⟩ ⟨by omega,o,ho,rfl⟩ hb (by rw[e];exact hib);injection this with e1 e2;exact hn ⟨e1,.inr e2⟩)
 have h0:=h.two _ (Zg M L 0 (by omega));have h1:=h.lt (Zg M L 0 (by omega));have hkv:zy (zcK L v) v.n=zy L v.n:=by
  rw[ziP (by rw[hp];exact λe=>hvo e.symm),zc0];refine zdZ (λu hu e=>?_);obtain rfl:=zak T.nd (Ze.1 hu).1 hv e;exact hvo ((Ze.1 hu).2.symm.trans hp)
 have hvs:(M.setS o.n (.slice (some ⟨ib,0,none⟩) n cap)).s v.n=M.s v.n:=zn _ _ hvo;have J:=D1.join (L:=L) (L':=zcK L v) (v':=v) (q:=o) (sp:=.slice (some ⟨g,0,none⟩) (n+1) cap') ho1
  (λa ha b hb e=>zak T.nd (Za.1 ha).1 (Za.1 hb).1 e)
  (λu=>zkB) (λm hm=>ziP (by rw[hp];exact λe=>hm e.symm)) (λu hu=>(Za.1 hu).2)
  (λp q' i hp' hq' e1 e2=>h.inj p q' i hp' hq' (by rw[←hblk];exact e1) (by rw[←hblk];exact e2))
  (λn=>⟨λ⟨u,hu,e⟩=>by
    by_cases e':n=v.n
    ·exact .inl e'
    ·exact .inr ⟨u,Za.2 ⟨hu,by rw[e];exact e'⟩,e⟩,
    λhh=>by
     rcases hh with e|⟨u,hu,e⟩
     ·exact⟨v,hv,e.symm⟩
     ·exact⟨u,(Za.1 hu).1,e⟩⟩)
  (λi ⟨p,hp',e⟩=>Nat.lt_of_lt_of_le (h.lt ⟨p,hp',by rw[←hblk];exact e⟩) hz)
  (λi ⟨p,hp',e⟩=>h.two i ⟨p,hp',by rw[←hblk];exact e⟩)
  (by
    show Z9 _ v (M.b v.n) (M.c v.n) (M.g v.n) (M.pp v.par) ((M.setS o.n (.slice (some ⟨ib,0,none⟩) n cap)).s v.n) (M.ptrs (zy (zcK L v) v.n));rw[hvs,hkv];exact V1.same (kk v 0 _ hv (by omega) rfl (λhc=>hvo hc.1)) (kk v 1 _ hv (by omega) rfl (λhc=>hvo hc.1)) (kk v 2 _ hv (by omega) rfl (λhc=>hvo hc.1)) (λi hi=>kk v 3 i hv (by omega) hi (λhc=>hvo hc.1)))
  (by
    show Z9 _ o (M.b o.n) (M.c o.n) (M.g o.n) (M.pp o.par) _ (M.ptrs (zy (zcK L v) o.n));rw[zl5 hp (λr T e=>(hroot r T e).1) (λr T e=>(hroot r T e).2)];have hln:(M.ptrs (zy (zG L v.n) o.n)).length=n:=by
     rcases O1.row.2 with⟨e,_⟩|⟨g,c,cur,e,_⟩
     ·simp at e
     ·obtain⟨_,h2,_⟩:ib=g/\n=_/\cap=c:=by simpa using e
      exact h2.symm
    have R3:w3.ownsRow 2 111 1 (.slice (some ⟨g,0,none⟩) (n+1) cap') (M.ptrs (v::zy (zG L v.n) o.n)).length (M.ptrs (v::zy (zG L v.n) o.n)):=by
     rw[show(M.ptrs (v::zy (zG L v.n) o.n)).length=n+1 by rw[M.ptrs_len,List.length_cons,←M.ptrs_len,hln]];exact R3
    exact⟨zbf O3 _,O1.gr.same (kk o 1 _ ho (by omega) rfl (by omega)) (kk o 2 _ ho (by omega) rfl (by omega)),O1.wf,zx R3 (λi hi=>Below.heap_setCell _ _ _ _ (λe=>hgo ((show g=i from(by simpa[Value.ownBlock] using hi)).trans e)))⟩)
  (by
    show _=(Zo M.s o.n _ o.n).ownBlock\/_;rw[zD];rcases hg with rfl|e
    ·exact .inl rfl
    ·exact .inr (λi hi=>by
      have:g=i:=by simpa[Value.ownBlock] using hi
      omega))
  (λi hi e1 e2=>by
    have e2':(Zo M.s o.n (.slice (some ⟨ib,0,none⟩) n cap) o.n).ownBlock≠some i:=e2;rw[zD] at e2';exact k4 i (D1.lt hi) e1 (λe=>e2' (by rw[e];rfl)))
  (by omega)
 obtain⟨JD,JO⟩:=J;refine⟨_,rfl,JD,rfl,?_,λi hi=>?_⟩
 ·refine(K1.trans K3 (λi hi hF=>?_)).setCell _ _ (λ_=>zgA M ho);rw[hF];exact zht M ho hib
 ·rcases JO i hi with⟨p,hp',e⟩|e
  ·exact .inl ⟨p,hp',by rw[←hblk];exact e⟩
  ·exact .inr (by omega)
theorem znV (ok:ZK L last) (w:World) (h:zI w M L last N s t) (v o:Wn) (hv:v∈L) (ho:o∈L) (hp:v.par=o.n) (hvo:v.n≠o.n):
 Calls Tryz.prog 115 #[M.ptr v.n,.bool false] w (zad M L (zcK L v) last N s t w (.tuple #[])):=by
 obtain⟨rk,K,T⟩:=ok.tree;have HD:=zH h;have hsom:∃ib,(M.s o.n).ownBlock=some ib:=by
  have hrow:=(h.win o ho).row;rcases hrow.2 with⟨_,h0⟩|⟨g,cap,cur,e,_⟩
  ·have h1:(zy L o.n).length=0:=by rw[M.ptrs_len] at h0;exact h0
   have:v∈zy L o.n:=Ze.2 ⟨hv,hp⟩;rw[List.length_eq_zero_iff.1 h1] at this;simp at this
  ·exact⟨g,by rw[e];rfl⟩
 obtain⟨ib,hib⟩:=hsom;have hon:o.n≠-1:=by have:=T.pos ho;omega
 have hroot:∀r T',L=r::T'->r.par≠o.n/\r.n≠v.n:=λr T' e=>by
  obtain⟨r',T'',e',h1,h2,h3⟩:=T.head;rw[e] at e';obtain⟨rfl,rfl⟩:r=r'/\T'=T'':=by simpa using e'
  have:=T.pos ho;refine⟨by omega,λe2=>?_⟩;have hvr:=zak T.nd hv (by rw[e];simp) e2.symm;rw[hvr] at hp;omega
 have HT:=zH T;clear h T;go_in;go_wp2_with fail;go_at_call 152;refine(zjJ ok _ HD.out v o hv ho hp hvo).mono ?_;rintro e w1 ⟨sp,rfl,D1,V1,K1,hso,ib',cap,hsp,hroom⟩;have ho1:=Za.2 ⟨ho,λe=>hvo e.symm⟩;have hO:=D1.win o ho1;change Z9 w1 o (M.b o.n) (M.c o.n) (M.g o.n) (M.pp o.par) (Zo M.s o.n sp o.n) (M.ptrs (zy (zG L v.n) o.n)) at hO;rw[zD] at hO;obtain rfl:ib=ib':=by rw[hib,hsp] at hso;simpa[Value.ownBlock] using hso.symm
 obtain⟨n,hn⟩:∃n,(zy L o.n).length-1=n:=⟨_,rfl⟩;have hkp:=List.length_pos_of_mem (Ze.2 ⟨hv,hp⟩);rw[hn] at hsp;subst hsp;have hn1:n+1<=cap:=by omega
 have hptr:M.ptrs (zy (zG L v.n) o.n)=((zy (zG L v.n) o.n).map (λu=>some (⟨M.b u.n,0,none⟩:Addr))).map Value.pointer:=by simp[Mm.ptrs,Mm.ptr,Function.comp_def]
 have hrl:(M.ptrs (zy (zG L v.n) o.n)).length=n:=by
  have:=hO.row.2;rcases this with⟨e,_⟩|⟨g,c,cur,e,_⟩
  ·simp at e
  ·obtain⟨_,h2,_⟩:ib=g/\n=_/\cap=c:=by simpa using e
   exact h2.symm
 have f1:=V1.f1;rw[show M.pp v.par=some ⟨M.b o.n,0,none⟩ by rw[hp];unfold Mm.pp;rw[if_neg hon]] at f1;have f6:=hO.f6;have ff:=hO.free;have lv:=V1.lt;have lo:=hO.lt;have n1:ib≠M.b v.n:=λe=>by
  have:=HD.out.inj (.win o.n 3) (.win v.n 0) ib ⟨by omega,o,ho,rfl⟩ ⟨by omega,v,hv,rfl⟩ hib (by rw[e];rfl);simp at this
 have n2:ib≠M.b o.n:=λe=>by
  have:=HD.out.inj (.win o.n 3) (.win o.n 0) ib ⟨by omega,o,ho,rfl⟩ ⟨by omega,o,ho,rfl⟩ hib (by rw[e];rfl);simp at this
 have h0:=HD.out.two _ (Zg M L 0 (by omega));have h1:=HD.out.lt (Zg M L 0 (by omega));have hz:=K1.size;have hW2:2<=w1.heap.size:=by omega
 have hbA:∀x,Below w1.heap.size w1 (w1.alloc x):=λx=>(Below.refl _ _).alloc (Nat.le_refl _) _;have f1':=λx=>((hbA x).cell (p:=⟨M.b v.n,1,none⟩) lv).trans f1;have f6':=λx=>((hbA x).cell (p:=⟨M.b o.n,6,none⟩) lo).trans f6;have Hins:Hid (Calls Tryz.prog 153 #[.slice (some ⟨ib,0,none⟩) n cap,.int .i64 0,.slice (some ⟨w1.heap.size,0,none⟩) 1 1] (w1.alloc (.cells #[M.ptr v.n] 111)).drew λe w'=>∃g cap',e=.returned (.slice (some ⟨g,0,none⟩) (n+1:Nat) cap')/\w'.ownsRow 2 111 1 (.slice (some ⟨g,0,none⟩) (n+1:Nat) cap') (n+1) (M.ptr v.n::M.ptrs (zy (zG L v.n) o.n))/\zd (λi=>i=ib) w1 w'/\(g=ib\/w1.heap.size<g)):=by
  have hr:(w1.alloc (.cells #[M.ptr v.n] 111)).drew.ownsRow 2 111 1 (.slice (some ⟨ib,0,none⟩) n cap) n (((zy (zG L v.n) o.n).map (λu=>some (⟨M.b u.n,0,none⟩:Addr))).map Value.pointer):=by
   rw[←hptr];have:=hO.row;rw[hrl] at this;exact zx this (λi hi=>(hbA _).block i (Zw hO.row hi).1)
  refine(zr9 ib cap n w1.heap.size _ (M.ptr v.n) rfl _ hr hn1 (zf w1 _) (λe=>by have:=(Zw hO.row (i:=ib) rfl).1;omega) (by show 2<=(w1.alloc _).heap.size;first|(simp;omega)|simp)).mono ?_;rintro e w' ⟨g,cap',rfl,r,k,hg⟩;refine⟨g,cap',rfl,by rw[hptr];exact r,?_,hg.imp id (λhh=>by have hh':(w1.alloc (.cells #[M.ptr v.n] 111)).heap.size<=g:=hh;simp at hh';omega)⟩;exact((zd.below (λi=>i=ib) (hbA _)).trans ⟨k.os,k.tape,k.output,k.size,k.block⟩ (λ_ _ hh=>hh))
 have HL1:=zH D1;have HV1:=zH V1;have HO1:=zH hO;have HK1:=zH K1;clear D1 V1 K1 hO hbA;go_wp2_with fail;go_region_with (first|(go_at_call 153;refine Hins.out.mono ?_;rintro e w3 ⟨g,cap',rfl,R3,K3,hg3⟩;have HR3:=zH<|R3;have HK3:=zH<|K3;have Hg3:=zH<|hg3;have O3:=(K3.block _ lo (λe=>n2 e.symm)).trans HO1.out.blk;have HO3:=zH<|O3;have g1:=(Zj (K3.block _ lv (λe=>n1 e.symm)) 1).trans f1;have g6:w3.cell? ⟨M.b o.n,6,none⟩=some (.slice (some ⟨ib,0,none⟩) n cap):=za O3 6;have gf:=ze O3 6;clear R3 K3 hg3 O3));all_goals
  go_wp2_with fail;go_end0;exact zsa ok HD.out v o hv ho hp hvo ib cap n g cap' hroot hib HL1.out HV1.out HO1.out HK1.out HR3.out HK3.out Hg3.out
end
section
variable {M:Mm} {L:List Wn} {last:Int} {N:Nat} {s:Rs} {t:Pt}
theorem zad.ret {L':List Wn} {last':Int} {w w':World} {r r':Value} {e:Ending} (h:zad M L L' last' N s t w r e w'):e=.returned r/\zad M L L' last' N s t w r' (.returned r') w':=by
 obtain⟨M',e,D,t',K,O⟩:=h;exact⟨e,M',rfl,D,t',K,O⟩
theorem zpR (ok:ZK L last) (w:World) (h:zI w M L last N s t) (v:Wn) (hv:v∈L) (hp:v.par≠-1) (up:Bool) (L':List Wn) (hr:Calls Tryz.prog 115 #[M.ptr v.n,.bool up] w (zad M L L' last N s t w (.tuple #[]))):
 Calls Tryz.prog 52 #[.pointer (some ⟨M.t 0,0,none⟩),.int .i64 v.n,.bool up] w (zad M L L' last N s t w (.int .i64 0)):=by
 have HD:=zH h;have Hr:=zH hr;clear h hr;go_in;go_wp2_with (first|(go_at_call 111;refine sM (zdY ok _ HD.out v hv hp) ?_));go_at_call 115;refine Hr.out.mono ?_;rintro e w1 hl;obtain⟨rfl,HP⟩:=hl.ret (r':=.int .i64 0);have HP1:=zH HP;clear hl HP;go_wp2_with fail;go_ret;exact HP1.out
theorem zvC {rk:Int->Nat} {K:Nat} (T:ZR L rk K) (ok:ZK L last) (w:World) (h:zI w M L last N s t) (v o q:Wn) (hv:v∈L) (ho:o∈L) (hq:q∈L) (hp:v.par=o.n) (hvo:v.n≠o.n) (hns:¬Sub L v.n q.n):
 Calls Tryz.prog 54 #[.pointer (some ⟨M.t 0,0,none⟩),.int .i64 v.n,.int .i64 q.n] w (zad M L (zcy L v q.n) last N s t w (.int .i64 0)):=by
 have HD:=zH h;have hf:=M.fnd_in hq;have hp1:v.par≠-1:=by have:=T.pos ho;omega
 have hvq:v.n≠q.n:=λe=>hns (e ▸ .refl);have Hvq:=zH hvq;have Hlies:=zH<|ztH T w h q v hq hv false (by simp[hns])
 clear h hvq;go_in;go_wp2_with (first|(go_at_call 75;refine sM (zbj ok _ HD.out _) ?_)|(go_at_call 111;refine sM (zdY ok _ HD.out v hv hp1) ?_)|(go_at_call 117;refine sM Hlies.out ?_));go_at_call 118;refine(zvB ok _ HD.out v o q hv ho hq hp hvo Hvq.out).mono ?_;rintro e w1 hl;obtain⟨rfl,HP⟩:=hl.ret (r':=.int .i64 0);have HP1:=zH HP;clear hl HP;go_wp2_with fail;go_ret;exact HP1.out
end
def zU (L:List Wn) (n:Int):Int:=if zch L n=false then 1 else if n=0 then 2 else 0
section
variable {M:Mm} {L:List Wn} {last:Int} {N:Nat} {s:Rs} {t:Pt}
theorem zad.stay {w w':World} {r:Value} (h:zI w M L last N s t) (hb:Below w.heap.size w w'):zad M L L last N s t w r (.returned r) w' :=
 ⟨M,rfl,h.below hb,rfl,zd.below _ hb,λ_ hi=>.inl hi⟩
theorem zdC (ok:ZK L last) (w:World) (h:zI w M L last N s t) (n:Int) (he:zU L n≠0):
 Calls Tryz.prog 111 #[.pointer (some ⟨M.t 0,0,none⟩),.int .i64 n] w λe w'=>e=.returned (.tuple #[.pointer none,.int .i64 (zU L n)])/\w'=w:=by
 have HD:=zH h;unfold zU at he ⊢;by_cases h1:zch L n=false
 ·rw[if_pos h1];have hf:M.fnd L n=none:=by unfold Mm.fnd;rw[if_neg (by simp[h1])]
  clear h he;go_in;go_wp2_with (first|(go_at_call 75;refine sM (zbj ok _ HD.out _) ?_));go_ret2;exact⟨rfl,rfl⟩
 ·rw[if_neg h1] at he ⊢;by_cases h2:n=0
  ·rw[if_pos h2];obtain⟨rk,K,T⟩:=ok.tree;obtain⟨r,hr,hr0,hrp⟩:=T.rootIn;obtain rfl:n=r.n:=by rw[hr0];exact h2
   have hf:=M.fnd_in hr;have hpp:(M.pp r.par).isNone=true:=by simp[Mm.pp,hrp]
   clear h he T hrp h2 hr0 h1;go_in;go_wp2_with (first|(go_at_call 75;refine sM (zbj ok _ HD.out _) ?_)|(go_at_call 151;refine sM (znh r _ _ _ _ _ _ _ (HD.out.win r hr)) ?_));go_ret2;exact⟨rfl,rfl⟩
  ·rw[if_neg h2] at he;omega
theorem zsb (ok:ZK L last) (w:World) (h:zI w M L last N s t) (n:Int) (b:Bool) (he:zU L n≠0):
 Calls Tryz.prog 53 #[.pointer (some ⟨M.t 0,0,none⟩),.int .i64 n,.bool b] w λe w'=>e=.returned (.int .i64 (zU L n))/\w'=w:=by
 have HD:=zH h;have hk:=zdC ok w h n he;have Hk:=zH hk;clear h hk;generalize zU L n=er at *;go_in;go_wp2_with (first|(go_at_call 111;refine sM Hk.out ?_));go_ret;exact⟨rfl,rfl⟩
theorem zsc (ok:ZK L last) (w:World) (h:zI w M L last N s t) (n x y:Int) (he:zU L n≠0):
 Calls Tryz.prog 50 #[.pointer (some ⟨M.t 0,0,none⟩),.int .i64 n,.int .i64 x,.int .i64 y] w λe w'=>e=.returned (.int .i64 (zU L n))/\w'=w:=by
 have HD:=zH h;have hk:=zdC ok w h n he;have Hk:=zH hk;clear h hk;generalize zU L n=er at *;go_in;go_wp2_with (first|(go_at_call 111;refine sM Hk.out ?_));go_ret;exact⟨rfl,rfl⟩
theorem zpS (ok:ZK L last) (w:World) (h:zI w M L last N s t) (v:Wn) (hv:v∈L) (hp:v.par≠-1) (x y:Int) (hpl:Zt x y=false):
 Calls Tryz.prog 50 #[.pointer (some ⟨M.t 0,0,none⟩),.int .i64 v.n,.int .i64 x,.int .i64 y] w λe w'=>e=.returned (.int .i64 4)/\w'=w:=by
 have HD:=zH h;clear h;go_in;go_wp2_with (first|(go_at_call 111;refine sM (zdY ok _ HD.out v hv hp) ?_)|(go_at_call 76;refine sM (zbX _ _ _) ?_));go_ret;exact⟨rfl,rfl⟩
theorem zpT (ok:ZK L last) (w:World) (h:zI w M L last N s t) (n:Int) (b:Bool) (he:zU L n≠0):
 Calls Tryz.prog 52 #[.pointer (some ⟨M.t 0,0,none⟩),.int .i64 n,.bool b] w λe w'=>e=.returned (.int .i64 (zU L n))/\w'=w:=by
 have HD:=zH h;have hk:=zdC ok w h n he;have Hk:=zH hk;clear h hk;generalize zU L n=er at *;go_in;go_wp2_with (first|(go_at_call 111;refine sM Hk.out ?_));go_ret;exact⟨rfl,rfl⟩
theorem znW (ok:ZK L last) (w:World) (h:zI w M L last N s t) (n m:Int) (hm:zch L m=false):
 Calls Tryz.prog 54 #[.pointer (some ⟨M.t 0,0,none⟩),.int .i64 n,.int .i64 m] w λe w'=>e=.returned (.int .i64 1)/\w'=w:=by
 have HD:=zH h;have hf:=M.fnd_no hm;clear h;go_in;go_wp2_with (first|(go_at_call 75;refine sM (zbj ok _ HD.out _) ?_));go_ret;exact⟨rfl,rfl⟩
theorem zsd (ok:ZK L last) (w:World) (h:zI w M L last N s t) (n:Int) (q:Wn) (hq:q∈L) (he:zU L n≠0):
 Calls Tryz.prog 54 #[.pointer (some ⟨M.t 0,0,none⟩),.int .i64 n,.int .i64 q.n] w λe w'=>e=.returned (.int .i64 (zU L n))/\w'=w:=by
 have hf:=M.fnd_in hq;have HD:=zH h;have hk:=zdC ok w h n he;have Hk:=zH hk;clear h hk;generalize zU L n=er at *;go_in;go_wp2_with (first|(go_at_call 75;refine sM (zbj ok _ HD.out _) ?_)|(go_at_call 111;refine sM Hk.out ?_));go_ret;exact⟨rfl,rfl⟩
theorem znX {rk:Int->Nat} {K:Nat} (T:ZR L rk K) (ok:ZK L last) (w:World) (h:zI w M L last N s t) (v q:Wn) (hv:v∈L) (hq:q∈L) (hp:v.par≠-1) (hns:Sub L v.n q.n):
 Calls Tryz.prog 54 #[.pointer (some ⟨M.t 0,0,none⟩),.int .i64 v.n,.int .i64 q.n] w λe w'=>e=.returned (.int .i64 5)/\w'=w:=by
 have HD:=zH h;have hf:=M.fnd_in hq;have Hlies:=zH<|ztH T w h q v hq hv true (by simp[hns])
 clear h;go_in;go_wp2_with (first|(go_at_call 75;refine sM (zbj ok _ HD.out _) ?_)|(go_at_call 111;refine sM (zdY ok _ HD.out v hv hp) ?_)|(go_at_call 117;refine sM Hlies.out ?_));go_ret;exact⟨rfl,rfl⟩
def zdj (L:List Wn) (n x y W H:Int):Int:=if zch L n=false then 1 else if Zt x y=false then 4 else if ZC W H=false then 3 else if 16<=L.length then 6 else 0
theorem znY (ok:ZK L last) (w:World) (h:zI w M L last N s t) (n x y W H:Int) (he:zdj L n x y W H≠0):
 Calls Tryz.prog 48 #[.pointer (some ⟨M.t 0,0,none⟩),.int .i64 n,.int .i64 x,.int .i64 y,.int .i64 W,.int .i64 H] w λe w'=>e=.returned (.tuple #[.int .i64 0,.int .i64 (zdj L n x y W H)])/\w'=w:=by
 have c0:=h.c0;have HD:=zH h;clear h;unfold zdj at he ⊢;by_cases h1:zch L n=false
 ·rw[if_pos h1];have hf:=M.fnd_no h1;clear he;go_in;go_wp2_with (first|(go_at_call 75;refine sM (zbj ok _ HD.out _) ?_));go_ret2;exact⟨rfl,rfl⟩
 rw[if_neg h1] at he ⊢;obtain⟨v,hv,rfl⟩:=zaX.1 (by simpa using h1);have hf:=M.fnd_in hv;clear h1;by_cases h2:Zt x y=false
 ·rw[if_pos h2];clear he;go_in;go_wp2_with (first|(go_at_call 75;refine sM (zbj ok _ HD.out _) ?_)|(go_at_call 76;refine sM (zbX _ _ _) ?_));go_ret2;exact⟨rfl,rfl⟩
 rw[if_neg h2] at he ⊢;have h2':Zt x y=true:=by simpa using h2
 clear h2;by_cases h3:ZC W H=false
 ·rw[if_pos h3];clear he;go_in;go_wp2_with (first|(go_at_call 75;refine sM (zbj ok _ HD.out _) ?_)|(go_at_call 76;refine sM (zbX _ _ _) ?_)|(go_at_call 46;refine sM (zcg _ _ _) ?_));go_ret2;exact⟨rfl,rfl⟩
 rw[if_neg h3] at he ⊢;have h3':ZC W H=true:=by simpa using h3
 clear h3;by_cases h4:16<=L.length
 ·rw[if_pos h4];have hnf:decide (16<=L.length)=true:=by simpa using h4
  clear he h4;go_in;go_wp2_with (first|(go_at_call 75;refine sM (zbj ok _ HD.out _) ?_)|(go_at_call 76;refine sM (zbX _ _ _) ?_)|(go_at_call 46;refine sM (zcg _ _ _) ?_)|(go_at_call 109;refine sM (ztC ok _ HD.out) ?_));go_ret2;exact⟨rfl,rfl⟩
 ·rw[if_neg h4] at he;omega
end
def zex (L:List Wn) (n x y:Int) (b:ByteArray) (p:Pn):Int:=if zch L n=false then 1 else if Zt x y=false then 4 else if 200<b.size then 7 else if zdA p=false then 8 else 0
section
variable {M:Mm} {L:List Wn} {last:Int} {N:Nat} {s:Rs} {t:Pt}
theorem zpU (ok:ZK L last) (w:World) (h:zI w M L last N s t) (n x y:Int) (b:ByteArray) (p:Pn) (he:zex L n x y b p≠0):
 Calls Tryz.prog 31 #[.pointer (some ⟨M.t 0,0,none⟩),.int .i64 n,.int .i64 x,.int .i64 y,.string b,p.agg] w λe w'=>e=.returned (.int .i64 (zex L n x y b p))/\Below w.heap.size w w':=by
 have HD:=zH h;clear h;have hb1:Below w.heap.size w (w.alloc (.cells #[.int .i64 p.f,.int .i64 p.b,.bool p.bo,.bool p.un,.bool p.re] 33)):=(Below.refl _ _).alloc (Nat.le_refl _) _;have HDa:=zH<|HD.out.below hb1
 unfold zex at he ⊢;by_cases h1:zch L n=false
 ·rw[if_pos h1];have hf:=M.fnd_no h1;clear he;go_in;go_wp2_with (first|(go_at_call 75;refine sM (zbj ok _ HDa.out _) ?_));go_ret;exact⟨rfl,hb1⟩
 rw[if_neg h1] at he ⊢;obtain⟨v,hv,rfl⟩:=zaX.1 (by simpa using h1);have hf:=M.fnd_in hv;clear h1;by_cases h2:Zt x y=false
 ·rw[if_pos h2];clear he;go_in;go_wp2_with (first|(go_at_call 75;refine sM (zbj ok _ HDa.out _) ?_)|(go_at_call 76;refine sM (zbX _ _ _) ?_));go_ret;exact⟨rfl,hb1⟩
 rw[if_neg h2] at he ⊢;have h2':Zt x y=true:=by simpa using h2
 clear h2;by_cases h3:200<b.size
 ·rw[if_pos h3];have h3':(200:Int)<(b.size:Int):=by omega
  clear he;go_in;go_wp2_with (first|(go_at_call 75;refine sM (zbj ok _ HDa.out _) ?_)|(go_at_call 76;refine sM (zbX _ _ _) ?_));go_ret;exact⟨rfl,hb1⟩
 rw[if_neg h3] at he ⊢;have h3':¬(200:Int)<(b.size:Int):=by omega
 by_cases h4:zdA p=false
 ·rw[if_pos h4];clear he;obtain⟨p0,p1,p2,p3,p4⟩:=ZO w p 33;go_in;go_wp2_with (first|(go_at_call 75;refine sM (zbj ok _ HDa.out _) ?_)|(go_at_call 76;refine sM (zbX _ _ _) ?_));go_at_call 77;refine(zr6 p _).mono ?_;rw[h4];rintro e wb ⟨rfl,hbb⟩;have HB:=zH<|hb1.trans (hbb.mono hb1.size)
  clear p0 p1 p2 p3 p4 hbb;go_wp2_with fail;go_ret;exact⟨rfl,HB.out⟩
 ·rw[if_neg h4] at he;omega
end
section
variable (w:World) (n x y W H:Int) (b:Bool) (m:Int) (tx:ByteArray) (p:Pn)
theorem zdD:Calls Tryz.prog 111 #[.pointer none,.int .i64 n] w λe w'=>e=.returned (.tuple #[.pointer none,.int .i64 1])/\w'=w:=by
 go_in;go_wp2_with (first|(go_at_call 75;refine sM (zdz _ _) ?_));go_ret2;exact⟨rfl,rfl⟩
theorem zl6:Calls Tryz.prog 48 #[.pointer none,.int .i64 n,.int .i64 x,.int .i64 y,.int .i64 W,.int .i64 H] w λe w'=>e=.returned (.tuple #[.int .i64 0,.int .i64 1])/\w'=w:=by
 go_in;go_wp2_with (first|(go_at_call 75;refine sM (zdz _ _) ?_));go_ret2;exact⟨rfl,rfl⟩
theorem zpV:Calls Tryz.prog 53 #[.pointer none,.int .i64 n,.bool b] w λe w'=>e=.returned (.int .i64 1)/\w'=w:=by
 go_in;go_wp2_with (first|(go_at_call 111;refine sM (zdD _ _) ?_));go_ret;exact⟨rfl,rfl⟩
theorem znZ:Calls Tryz.prog 52 #[.pointer none,.int .i64 n,.bool b] w λe w'=>e=.returned (.int .i64 1)/\w'=w:=by
 go_in;go_wp2_with (first|(go_at_call 111;refine sM (zdD _ _) ?_));go_ret;exact⟨rfl,rfl⟩
theorem zl7:Calls Tryz.prog 49 #[.pointer none,.int .i64 n] w λe w'=>e=.returned (.int .i64 1)/\w'=w:=by
 go_in;go_wp2_with (first|(go_at_call 111;refine sM (zdD _ _) ?_));go_ret;exact⟨rfl,rfl⟩
theorem zpW:Calls Tryz.prog 50 #[.pointer none,.int .i64 n,.int .i64 x,.int .i64 y] w λe w'=>e=.returned (.int .i64 1)/\w'=w:=by
 go_in;go_wp2_with (first|(go_at_call 111;refine sM (zdD _ _) ?_));go_ret;exact⟨rfl,rfl⟩
theorem zn0:Calls Tryz.prog 51 #[.pointer none,.int .i64 n,.int .i64 x,.int .i64 y] w λe w'=>e=.returned (.int .i64 1)/\w'=w:=by
 go_in;go_wp2_with (first|(go_at_call 111;refine sM (zdD _ _) ?_));go_ret;exact⟨rfl,rfl⟩
theorem zpX:Calls Tryz.prog 54 #[.pointer none,.int .i64 n,.int .i64 m] w λe w'=>e=.returned (.int .i64 1)/\w'=w:=by
 go_in;go_wp2_with (first|(go_at_call 75;refine sM (zdz _ _) ?_));go_ret;exact⟨rfl,rfl⟩
theorem zn1:Calls Tryz.prog 31 #[.pointer none,.int .i64 n,.int .i64 x,.int .i64 y,.string tx,p.agg] w λe w'=>e=.returned (.int .i64 1)/\Below w.heap.size w w':=by
 go_in;go_wp2_with (first|(go_at_call 75;refine sM (zdz _ _) ?_));go_ret;exact⟨rfl,(Below.refl _ _).alloc (Nat.le_refl _) _⟩
theorem zpY:Calls Tryz.prog 33 #[.pointer none,.int .i64 n,.int .i64 x,.int .i64 y,.int .i64 W,.int .i64 H,p.agg] w λe w'=>e=.returned (.int .i64 1)/\Below w.heap.size w w':=by
 go_in;go_wp2_with (first|(go_at_call 75;refine sM (zdz _ _) ?_));go_ret;exact⟨rfl,(Below.refl _ _).alloc (Nat.le_refl _) _⟩
theorem zl8:Calls Tryz.prog 35 #[.pointer none,.int .i64 n,.int .i64 x] w λe w'=>e=.returned (.int .i64 1)/\w'=w:=by
 go_in;go_wp2_with (first|(go_at_call 75;refine sM (zdz _ _) ?_));go_ret;exact⟨rfl,rfl⟩
theorem zl9:Calls Tryz.prog 18 #[.pointer none,.int .i64 x,.int .i64 y] w λe w'=>e=.returned (.int .i64 1)/\w'=w:=by
 go_in;go_wp2_with (first|(go_at_call 41;refine sM (zfD _) ?_));go_ret;exact⟨rfl,rfl⟩
end
theorem zpZ {M:Mm} {L:List Wn} {last:Int} {N:Nat} {s:Rs} {t:Pt} (w:World) (h:zI w M L last N s t) (r:Wn) (hr:r∈L) (hr0:r.n=0) (x y:Int) (hin:inG r.W r.H x y=false):Calls Tryz.prog 11 #[.pointer (some ⟨M.t 0,0,none⟩),.int .i64 x,.int .i64 y] w λe w'=>e=.returned (.tuple #[noC.agg,.int .i64 4])/\Below w.heap.size w w':=by
 have HD:=zH h;have c0:=h.c0;have c0':∀o,(w.alloc o).cell? ⟨M.t 0,0,none⟩=some (.pointer (some ⟨M.t 1,0,none⟩)):=λo=>by rw[((Below.refl w.heap.size w).alloc (Nat.le_refl _) o).cell (p:=⟨M.t 0,0,none⟩) (h.lt (Zg M L 0 (by omega)))];exact c0
 clear h;have C2:zv (w.alloc (.cells Z7 38)) w.heap.size 0 noC:=zaq w noC 38;have F2:=ze (zf w (.cells Z7 38));have hb0:Below w.heap.size w (w.alloc (.cells Z7 38)):=(Below.refl _ _).alloc (Nat.le_refl _) _;have P4:=zai (c:=noC) C2;have B4:=((zd.below (λi=>i=w.heap.size) hb0).put7 w.heap.size 0 noC (λh=>rfl)).toBelow (Nat.le_refl _) (λi hi=>by omega);go_in;go_wp2_with (first|(go_at_call 41;refine sM (ziJ _ (HD.out.below ((Below.refl _ _).alloc (Nat.le_refl _) _))) ?_)|((go_at_call 42;refine sM (zrZ _ (HD.out.below ((Below.refl _ _).alloc (Nat.le_refl _) _)) r hr hr0 _ _) ?_);generalize w.alloc (.cells Z7 38)=wa at *;obtain⟨q0,q1,q2,q3,q4,q5,q6⟩:=C2));change bodyPost _ _ _ _ _ (put7 wa w.heap.size 0 noC);generalize put7 wa w.heap.size 0 noC=w4 at *;clear q0 q1 q2 q3 q4 q5 q6;obtain⟨q0,q1,q2,q3,q4,q5,q6⟩:=P4;refine bodyPost_ret (v:=.tuple #[noC.agg,.int .i64 4]) ?_ rfl ⟨rfl,B4⟩;simp[results,Tryz.results11,go_sem,q0,q1,q2,q3,q4,q5,q6]
section
variable (w:World) (x y:Int)
theorem zp0:Calls Tryz.prog 11 #[.pointer none,.int .i64 x,.int .i64 y] w λe w'=>e=.returned (.tuple #[noC.agg,.int .i64 1])/\Below w.heap.size w w':=by
 have C2:zv (w.alloc (.cells Z7 38)) w.heap.size 0 noC:=zaq w noC 38;have F2:=ze (zf w (.cells Z7 38));have hb0:Below w.heap.size w (w.alloc (.cells Z7 38)):=(Below.refl _ _).alloc (Nat.le_refl _) _;have P4:=zai (c:=noC) C2;have B4:=((zd.below (λi=>i=w.heap.size) hb0).put7 w.heap.size 0 noC (λh=>rfl)).toBelow (Nat.le_refl _) (λi hi=>by omega);go_in;go_wp2_with (first|((go_at_call 41;refine sM (zfD _) ?_);generalize w.alloc (.cells Z7 38)=wa at *;obtain⟨q0,q1,q2,q3,q4,q5,q6⟩:=C2));change bodyPost _ _ _ _ _ (put7 wa w.heap.size 0 noC);generalize put7 wa w.heap.size 0 noC=w4 at *;clear q0 q1 q2 q3 q4 q5 q6;obtain⟨q0,q1,q2,q3,q4,q5,q6⟩:=P4;refine bodyPost_ret (v:=.tuple #[noC.agg,.int .i64 1]) ?_ rfl ⟨rfl,B4⟩;simp[results,Tryz.results11,go_sem,q0,q1,q2,q3,q4,q5,q6]
end
theorem zse (v:Wn) (bn cn gn:Nat) (pp:Option Addr) (sv:Value) (ks:List Value) (n:Int) (w:World) (h:Z9 w v bn cn gn pp sv ks):
 Calls Tryz.prog 88 #[.pointer (some ⟨bn,0,none⟩),.int .i64 n] w λe w'=>e=.returned (.tuple #[])/\Zi w' cn gn v.W v.H (v.H*v.W) (zo 0 ((v.H:Int)-1) n Pn.plain v.G)/\zd (λi=>i=gn) w w':=by
 have HV:=zH h;have f5:=h.f5;have h1:=h.gr.h1;have h2:=h.gr.h2;have hs:IntKind.i64.wrap ((v.H:Int)-1)=(v.H:Int)-1:=zm _ (by omega) (by omega);have hd:Zi w.drew cn gn v.W v.H (v.H*v.W) v.G:=h.gr.same rfl rfl;have Hh:=zH<|zbF _ _ _ _ _ _ _ hd
 have Hs:Hid (Calls Tryz.prog 141 #[.pointer (some ⟨cn,0,none⟩),.int .i64 0,.int .i64 ((v.H:Int)-1),.int .i64 n,Pn.plain.agg] w.drew λe w'=>e=.returned (.tuple #[])/\Zi w' cn gn v.W v.H (v.H*v.W) (zo 0 ((v.H:Int)-1) n Pn.plain v.G)/\zd (λi=>i=gn) w w'):=
  (zku cn gn v.W v.H _ v.G 0 ((v.H:Int)-1) n Pn.plain _ hd (by omega) (by omega) (by omega)).mono (λe w' ⟨a,b,c⟩=>⟨a,b,⟨c.os,c.tape,c.output,c.size,c.block⟩⟩)
 clear h hd;go_in;go_wp2_with fail;go_region_with (first|(go_at_call 127;refine Hh.out.mono ?_;rintro e wb ⟨rfl,hwb⟩;subst hwb)|(go_at_call 141;refine Hs.out.mono ?_;rintro e wb ⟨rfl,G2,K2⟩;have HG2:=zH<|G2;clear G2));all_goals
  go_wp2_with fail;go_end0;exact⟨rfl,HG2.out,K2⟩
def zaY (W:Nat) (x y ww hh:Int) (p:Pn) (G:Nat->Nat->zk):Nat->Nat->Nat->zk
 |0=>G
 |j+1=>if y<=j/\(j:Int)<y+hh then zaH W x (x+ww) j p (zaY W x y ww hh p G j) else zaY W x y ww hh p G j
theorem zfl {W:Nat} {x y ww hh:Int} {p:Pn} {G:Nat->Nat->zk} {a:Nat}:∀ {b:Nat},a<=b->(∀j:Nat,a<=j->j<b->¬(y<=j/\(j:Int)<y+hh))->zaY W x y ww hh p G b=zaY W x y ww hh p G a:=by
 intro b;induction b with
 |zero=>
   intro h _;obtain rfl:a=0:=by omega
   rfl
 |succ b ih=>
  intro h hn;by_cases e:a=b+1
  ·rw[e]
  ·have h1:=hn b (by omega) (by omega);show(if _ then _ else _)=_;rw[if_neg h1];exact ih (by omega) (λj hj hb=>hn j hj (by omega))
section
variable {M:Mm} {L:List Wn} {last:Int} {N:Nat} {s:Rs} {t:Pt}
theorem zsf (ok:ZK L last) (w:World) (h:zI w M L last N s t) (v:Wn) (hv:v∈L) (n:Int):
 Calls Tryz.prog 35 #[.pointer (some ⟨M.t 0,0,none⟩),.int .i64 v.n,.int .i64 n] w (zad M L (zY L v.n (λu=>{u with G:=zo 0 ((v.H:Int)-1) n Pn.plain v.G})) last N s t w (.int .i64 0)):=by
 have HD:=zH h;have hf:=M.fnd_in hv;have h1:=(h.win v hv).gr.h1;clear h;go_in;go_wp2_with (first|(go_at_call 75;refine sM (zbj ok _ HD.out _) ?_));go_at_call 88;refine(zse v _ _ _ _ _ _ n _ (HD.out.win v hv)).mono ?_;rintro e wc ⟨rfl,G1,K1⟩;have HP:=zH<|HD.out.setG ok hv _ ((HD.out.win v hv).wf.scroll 0 _ n _ (by omega) (by omega)) G1 K1 (.int .i64 0)
 clear G1 K1 HD;go_wp2_with fail;go_ret;exact HP.out
theorem zn2 (ok:ZK L last) (w:World) (h:zI w M L last N s t) (n k:Int) (hn:zch L n=false):
 Calls Tryz.prog 35 #[.pointer (some ⟨M.t 0,0,none⟩),.int .i64 n,.int .i64 k] w λe w'=>e=.returned (.int .i64 1)/\w'=w:=by
 have HD:=zH h;have hf:=M.fnd_no hn;clear h;go_in;go_wp2_with (first|(go_at_call 75;refine sM (zbj ok _ HD.out _) ?_));go_ret;exact⟨rfl,rfl⟩
end
theorem zey {W H:Nat} {x y ww hh:Int} {p:Pn} {G:Nat->Nat->zk} (h:Wf W H G):∀j,Wf W H (zaY W x y ww hh p G j):=by
 intro j;induction j with
 |zero=>exact h
 |succ j ih=>
  show Wf W H (if _ then _ else _);split
  ·exact ih.wrWhole (λ_ _ _ _ _=>⟨rfl,by show Wd.wd 32=1;decide⟩)
  ·exact ih
theorem zvD (v:Wn) (bn cn gn:Nat) (pp:Option Addr) (sv:Value) (ks:List Value) (x y ww hh:Int) (p:Pn) (w:World) (h:Z9 w v bn cn gn pp sv ks) (hbg:bn≠gn) (hx:-1000<=x/\x<=1000/\-1000<=y/\y<=1000) (hw:0<=ww/\ww<=1000/\0<=hh/\hh<=1000):
 Calls Tryz.prog 85 #[.pointer (some ⟨bn,0,none⟩),.int .i64 x,.int .i64 y,.int .i64 ww,.int .i64 hh,p.agg] w λe w'=>e=.returned (.tuple #[])/\Zi w' cn gn v.W v.H (v.H*v.W) (zaY v.W x y ww hh p v.G v.H)/\zd (λi=>i=gn) w w':=by
 have HV:=zH h;have hb1:Below w.heap.size w (w.alloc (.cells #[.int .i64 p.f,.int .i64 p.b,.bool p.bo,.bool p.un,.bool p.re] 33)):=(Below.refl _ _).alloc (Nat.le_refl _) _;have P1:=ZO w p 33;have HVa:=zH<|h.same (hb1.block _ h.lt) (hb1.block _ h.gr.lt) (hb1.block _ h.gr.glt) (λi hi=>hb1.block _ (Zw h.row hi).1)
 have f5:=HVa.out.f5;have lb:=h.lt;have lg:=h.gr.glt;have h1:=h.gr.h1;have h2:=h.gr.h2;have sx:IntKind.i64.wrap (x+ww)=x+ww:=zm _ (by omega) (by omega);have sy:IntKind.i64.wrap (y+hh)=y+hh:=zm _ (by omega) (by omega);clear h;go_in;go_wp2_with (first|(go_at_call 127;refine sM (zbF _ _ _ _ _ _ _ HVa.out.gr) ?_)|(go_at_call 138;refine sM (zce _ _ _) ?_)|(go_at_call 139;refine sM (zcf _ _ _) ?_));generalize w.alloc (.cells #[.int .i64 p.f,.int .i64 p.b,.bool p.bo,.bool p.un,.bool p.re] 33)=wa at *;obtain⟨l0,hl0,hl0'⟩:∃l0:Nat,zK y 0=l0/\(∀j:Nat,j<l0->¬y<=j):=⟨(zK y 0).toNat,by unfold zK;split<;>omega,λj hj=>by unfold zK at hj;split at hj<;>omega⟩;obtain⟨en,hen⟩:∃en:Int,ZU (y+hh) v.H=en:=⟨_,rfl⟩;have hen1:en<=v.H/\en<=y+hh/\(∀j:Nat,en<=j->j<v.H->¬(j:Int)<y+hh):=by
  rw[←hen];unfold ZU;split
  ·exact⟨by omega,by omega,λj _ _=>by omega⟩
  ·exact⟨by omega,by omega,λj _ _=>by omega⟩
 rw[hl0,hen];have HE:=zH hen1;have HL0:Hid ((∀j:Nat,j<l0->¬y<=j)/\y<=l0):=⟨hl0',by rw[←hl0];unfold zK;split<;>omega⟩;have hl01:l0<=1000:=by
  have:zK y 0<=1000:=by unfold zK;split<;>omega
  omega
 clear hen1 hl0' hl0 hen;have Hfin:Hid (∀k:Nat,(k=l0\/k<=v.H)->en<=k->zaY v.W x y ww hh p v.G v.H=zaY v.W x y ww hh p v.G k):=λk hk he=>by
  by_cases hkH:k<=v.H
  ·exact zfl hkH (λj hj hj2 hc=>HE.out.2.2 j (by omega) hj2 hc.2)
  ·exact(zfl (a:=v.H) (b:=k) (by omega) (λj _ hj2 hc=>HL0.out.1 j (by omega) hc.1)).symm
 have Hst:Hid (zaY v.W x y ww hh p v.G l0=v.G):=zfl (a:=0) (by omega) (λj _ hj hc=>HL0.out.1 j hj hc.1);go_loopw[13] (λi w'=>∃k:Nat,l0<=k/\(k=l0\/k<=v.H)/\i=.int .i64 k/\Zi w' cn gn v.W v.H (v.H*v.W) (zaY v.W x y ww hh p v.G k)/\zd (λi=>i=gn) wa w') (λi _=>2000-(intOf i).toNat)
 case atStart=>exact⟨l0,by omega,.inl rfl,rfl,by rw[Hst.out];exact HVa.out.gr,zd.refl _ _⟩
 case round=>
  obtain⟨k,hk1,hk2,rfl,hG,hK⟩:=hrel;have HG:=zH hG;have HK:=zH hK;have g5:wr.cell? ⟨bn,5,none⟩=some (.pointer (some ⟨cn,0,none⟩)):=by rw[Zj (hK.block _ HVa.out.lt hbg)];exact f5
  have hPw:=hK.block _ P1.lt (by omega);obtain⟨p0,p1,p2,p3,p4⟩:=P1.same hPw;clear hG hK hPw;by_cases hlt:(k:Int)<en
  ·have hkH:k<v.H:=by have:=HE.out.1;omega
   have hin:y<=k/\(k:Int)<y+hh:=⟨by have:=HL0.out.2;omega,by have:=HE.out.2.1;omega⟩;have He:Hid (zaY v.W x y ww hh p v.G (k+1)=zaH v.W x (x+ww) k p (zaY v.W x y ww hh p v.G k)):=if_pos hin;have hd:Zi wr.drew cn gn v.W v.H (v.H*v.W) (zaY v.W x y ww hh p v.G k):=HG.out.same rfl rfl;have Her:Hid (Calls Tryz.prog 140 #[.pointer (some ⟨cn,0,none⟩),.int .i64 x,.int .i64 (x+ww),.int .i64 k,p.agg] wr.drew λe w'=>e=.returned (.tuple #[])/\Zi w' cn gn v.W v.H (v.H*v.W) (zaY v.W x y ww hh p v.G (k+1))/\zd (λi=>i=gn) wa w'):=by
    show Calls _ _ _ _ _;rw[He.out];exact(zlV cn gn v.W v.H _ _ x (x+ww) k p _ hd (zey HV.out.wf k) hkH).mono (λe w' ⟨a,b,c⟩=>⟨a,b,HK.out.trans ⟨c.os,c.tape,c.output,c.size,c.block⟩ (λ_ _ h=>h)⟩)
   clear hd He;go_wp2_with fail;go_region_with (first|(go_at_call 140;refine Her.out.mono ?_;rintro e wb ⟨rfl,G2,K2⟩;have HG2:=zH<|G2;clear G2));all_goals
    go_wp2_with fail;exact⟨⟨k+1,by omega,.inr (by omega),by simp,HG2.out,K2⟩,by simp[intOf];omega⟩
  ·have Hf:=zH<|Hfin.out k hk2 (by omega)
   go_wp2_with fail;go_end0;refine⟨rfl,by rw[Hf.out];exact HG.out,(zd.below _ hb1).trans HK.out (λ_ _ h=>h)⟩
def zef (x y:Int):Bool:=Wd.inB x 0 1000&&Wd.inB y 0 1000
theorem ziQ {x y:Int}:zef x y=true↔0<=x/\x<=1000/\0<=y/\y<=1000:=by simp[zef,Wd.inB,and_assoc]
theorem zp1 (x y:Int) (w:World):
 Calls Tryz.prog 84 #[.int .i64 x,.int .i64 y] w λe w'=>e=.returned (.bool (zef x y))/\w'=w:=by
 cases h1:Wd.inB x 0 1000<;>cases h2:Wd.inB y 0 1000;all_goals
  go_in;go_wp2_with (first|(go_at_call 107;refine sM (zan _ _ _ _) ?_));go_ret;exact⟨by simp[zef,h1,h2],rfl⟩
def zgD (L:List Wn) (n x y ww hh:Int) (p:Pn):Int:=if zch L n=false then 1 else if Zt x y=false then 4 else if zef ww hh=false then 3 else if zdA p=false then 8 else 0
section
variable {M:Mm} {L:List Wn} {last:Int} {N:Nat} {s:Rs} {t:Pt}
theorem zsg (ok:ZK L last) (w:World) (h:zI w M L last N s t) (n x y ww hh:Int) (p:Pn) (he:zgD L n x y ww hh p≠0):
 Calls Tryz.prog 33 #[.pointer (some ⟨M.t 0,0,none⟩),.int .i64 n,.int .i64 x,.int .i64 y,.int .i64 ww,.int .i64 hh,p.agg] w λe w'=>e=.returned (.int .i64 (zgD L n x y ww hh p))/\Below w.heap.size w w':=by
 have HD:=zH h;clear h;have hb1:Below w.heap.size w (w.alloc (.cells #[.int .i64 p.f,.int .i64 p.b,.bool p.bo,.bool p.un,.bool p.re] 33)):=(Below.refl _ _).alloc (Nat.le_refl _) _;have HDa:=zH<|HD.out.below hb1
 unfold zgD at he ⊢;by_cases h1:zch L n=false
 ·rw[if_pos h1];have hf:=M.fnd_no h1;clear he;go_in;go_wp2_with (first|(go_at_call 75;refine sM (zbj ok _ HDa.out _) ?_));go_ret;exact⟨rfl,hb1⟩
 rw[if_neg h1] at he ⊢;obtain⟨v,hv,rfl⟩:=zaX.1 (by simpa using h1);have hf:=M.fnd_in hv;clear h1;by_cases h2:Zt x y=false
 ·rw[if_pos h2];clear he;go_in;go_wp2_with (first|(go_at_call 75;refine sM (zbj ok _ HDa.out _) ?_)|(go_at_call 76;refine sM (zbX _ _ _) ?_));go_ret;exact⟨rfl,hb1⟩
 rw[if_neg h2] at he ⊢;have h2':Zt x y=true:=by simpa using h2
 clear h2;by_cases h3:zef ww hh=false
 ·rw[if_pos h3];clear he;go_in;go_wp2_with (first|(go_at_call 75;refine sM (zbj ok _ HDa.out _) ?_)|(go_at_call 76;refine sM (zbX _ _ _) ?_)|(go_at_call 84;refine sM (zp1 _ _ _) ?_));go_ret;exact⟨rfl,hb1⟩
 rw[if_neg h3] at he ⊢;have h3':zef ww hh=true:=by simpa using h3
 clear h3;by_cases h4:zdA p=false
 ·rw[if_pos h4];clear he;obtain⟨p0,p1,p2,p3,p4⟩:=ZO w p 33;go_in;go_wp2_with (first|(go_at_call 75;refine sM (zbj ok _ HDa.out _) ?_)|(go_at_call 76;refine sM (zbX _ _ _) ?_)|(go_at_call 84;refine sM (zp1 _ _ _) ?_));go_at_call 77;refine(zr6 p _).mono ?_;rw[h4];rintro e wb ⟨rfl,hbb⟩;have HB:=zH<|hb1.trans (hbb.mono hb1.size)
  clear p0 p1 p2 p3 p4 hbb;go_wp2_with fail;go_ret;exact⟨rfl,HB.out⟩
 ·rw[if_neg h4] at he;omega
theorem zvE (ok:ZK L last) (w:World) (h:zI w M L last N s t) (v:Wn) (hv:v∈L) (x y ww hh:Int) (p:Pn) (hpl:Zt x y=true) (hrc:zef ww hh=true) (hpn:zdA p=true):
 Calls Tryz.prog 33 #[.pointer (some ⟨M.t 0,0,none⟩),.int .i64 v.n,.int .i64 x,.int .i64 y,.int .i64 ww,.int .i64 hh,p.agg] w (zad M L (zY L v.n (λu=>{u with G:=zaY v.W x y ww hh p v.G v.H})) last N s t w (.int .i64 0)):=by
 have HD:=zH h;have hf:=M.fnd_in hv;have hx:=zbH.1 hpl;have hr:=ziQ.1 hrc;clear h;have hb1:Below w.heap.size w (w.alloc (.cells #[.int .i64 p.f,.int .i64 p.b,.bool p.bo,.bool p.un,.bool p.re] 33)):=(Below.refl _ _).alloc (Nat.le_refl _) _;have HDa:=zH<|HD.out.below hb1
 have P1:=ZO w p 33;obtain⟨p0,p1,p2,p3,p4⟩:=id P1;go_in;go_wp2_with (first|(go_at_call 75;refine sM (zbj ok _ HDa.out _) ?_)|(go_at_call 76;refine sM (zbX _ _ _) ?_)|(go_at_call 84;refine sM (zp1 _ _ _) ?_));go_at_call 77;refine(zr6 p _).mono ?_;rw[hpn];rintro e wb ⟨rfl,hbb⟩;have HDb:=zH<|HDa.out.below hbb
 have P2:=P1.same (hbb.block _ P1.lt);have K2:=zH<|hb1.trans (hbb.mono hb1.size)
 clear p0 p1 p2 p3 p4 P1 hbb HDa hb1;obtain⟨p0,p1,p2,p3,p4⟩:=P2;go_wp2_with fail;go_at_call 85;refine(zvD v _ _ _ _ _ _ x y ww hh p _ (HDb.out.win v hv) (HDb.out.ne_bg hv) hx hr).mono ?_;rintro e wc ⟨rfl,G1,K1⟩;have HP:Hid (zad M L (zY L v.n (λu=>{u with G:=zaY v.W x y ww hh p v.G v.H})) last N s t w (.int .i64 0) (.returned (.int .i64 0)) wc):=by
  obtain⟨M',e1,D1,t1,k1,o1⟩:=HDb.out.setG ok hv _ (zey (HDb.out.win v hv).wf v.H) G1 K1 (.int .i64 0);exact⟨M',e1,D1,t1,(zd.below _ K2.out).trans k1 (λ_ _ h=>h),λi hi=>(o1 i hi).imp id (λh=>by have:=K2.out.size;omega)⟩
 clear G1 K1 HDb K2 p0 p1 p2 p3 p4;go_wp2_with fail;go_ret;exact HP.out
end
end
end Go.Proofs.YtjlfibhbfdckpaaGreatDoor
