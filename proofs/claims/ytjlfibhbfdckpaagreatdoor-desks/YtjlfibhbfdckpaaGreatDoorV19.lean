import Derived.Test.YtjlfibhbfdckpaaGreatDoorV18
import Derived.RangeFuncNested
import Derived.Shelf.RegionOpen
import Derived.OwnWalkIn
import Derived.LoopNIn
import Derived.LoopIn
namespace Go.Proofs.YtjlfibhbfdckpaaGreatDoor
set_option maxHeartbeats 64000000
set_option maxRecDepth 100000
section
open Go.RowKit
theorem zlY {F:Fence} {n:Nat} {P:Program} {o:Oper} {a:Act} {w:World} {K:Act->World->Prop} {Q:Exit->Act->World->Prop} (l:Nat) (hro:F.round=none) (hd:∀c,o.op≠.defer c) (h:o.wpIn F n P a w K Q):o.wpIn (F.inRound l) n P a w K Q:=by
 unfold Oper.wpIn at *;refine⟨h.1,?_⟩;have e:o.semAt (F.inRound l).round a.eval=o.semAt F.round a.eval:=by
  rw[Fence.inRound_round,Oper.semAt_some l _ _ hd,hro];rfl
 rw[e];have h2:=h.2;generalize (o.semAt F.round a.eval).run P w=r at h2;cases r with
 |ok x w'=>cases x<;>exact h2
 |halt x w'=>cases x<;>exact h2
theorem zjD {F:Fence} {n:Nat} {P:Program} {ops:Array Oper} {Q:Exit->Act->World->Prop} {K:Act->World->Prop} {i:Nat} {a:Act} {w:World} (l:Nat) (hro:F.round=none) (hd:∀o∈ops.toList,∀c,o.op≠.defer c) (h:wpOpIn F n P ops Q i K a w):wpOpIn (F.inRound l) n P ops Q i K a w:=by
 unfold wpOpIn at *;cases ho:ops[i]? with
 |none=>simpa[ho] using h
 |some o=>
  simp only[ho] at h ⊢;by_cases hw:Region.wanted o (yielded ops a.tmps)=true
  ·rw[if_pos hw] at h ⊢;exact zlY l hro (hd o (by rw[←Array.getElem?_toList] at ho;exact List.mem_of_getElem? ho)) h
  ·rw[if_neg hw] at h ⊢;exact h
theorem ze9 {F:Fence} {n:Nat} {P:Program} {md:Region.Mode} {ops:Array Oper} {Q:Exit->Act->World->Prop} (l:Nat) (hro:F.round=none) (hd:∀o∈ops.toList,∀c,o.op≠.defer c):∀(fuel:Nat) (listed:Array Bool) (a:Act) (w:World),wpAnyIn F n P md ops Q fuel listed a w->wpAnyIn (F.inRound l) n P md ops Q fuel listed a w
 |0,_,_,_,h=>h
 |fuel+1,_,_,_,h=>⟨h.1,λi hi=>zjD l hro hd (wpOpIn_mono (λa' w' h'=>ze9 l hro hd fuel _ a' w' h') (h.2 i hi))⟩
def zrX (l:List Oper):Bool:=l.all (λo=>match o.op with|.defer _=>false|_=>true)
theorem zgB {F:Fence} {n:Nat} {P:Program} {id:Nat} {Q:Exit->Act->World->Prop} {a:Act} {w:World} {ops:List Oper} (l:Nat) (hro:F.round=none) (hm:P.follows .mixedOrders=true) (hB:Region.lexB .any ops.toArray=true) (hd:zrX ops=true)
 (h:wpQuietIn F n P ops.toArray (λw'=>∃n,w'=w.drewN n) (λa'=>∀w',(∃n,w'=w.drewN n)->Q .normal a' w') ops a):(Code.region id ops.toArray true).wpIn (F.inRound l) n P Q a w:=by
 simp only[Region.lexB,Bool.and_eq_true] at hB;have hd':∀o∈ops.toArray.toList,∀c,o.op≠.defer c:=by
  intro o ho c e;have:=List.all_eq_true.1 hd o (by simpa using ho);rw[e] at this;simp at this
 refine wpIn_region_any hm (ze9 l hro hd' _ _ _ _ (wpAnyIn_of_quiet (C:=λw'=>∃n,w'=w.drewN n) (Q:=λa'=>∀w',(∃n,w'=w.drewN n)->Q .normal a' w') hro (λ_ w' hw' h=>h w' hw') _ _ _ _ ⟨1,rfl⟩ ?_));have:=wpAnyQIn_lex (F:=F) (n:=n) (C:=λw'=>∃n,w'=w.drewN n) (md:=.any) hB.1 ops 0 (Array.replicate ops.toArray.size false) a (by simp) (by simpa using hB.2) (by simpa using h);simpa using this
end
section
open Go.RowKit Go.Shelf
attribute [local go_sem] Oper.semAt_some
abbrev zne (ks:List Wn):=Nat × {u:Wn // u∈ks}
abbrev zlZ (M:Mm) (ks:List Wn) (x:zne ks):Array Value:=#[.int .i64 (x.1:Int),M.ptr x.2.1.n]
theorem zt2 (ks:List Wn) (k:Nat) (hk:k<ks.length):∃u:{u:Wn // u∈ks},ks[ks.length-1-k]?=some u.1/\ks.attach.reverse[k]?=some u:=by
 have h:ks.length-1-k<ks.length:=by omega
 refine⟨⟨ks[ks.length-1-k],List.getElem_mem h⟩,List.getElem?_eq_getElem h,?_⟩;rw[List.getElem?_reverse (by simpa using hk)];simp[List.length_attach,h]
theorem zvw (M:Mm) (ks:List Wn) (F:Fence) (n:Nat) (hf:F.fn 195) (hro:F.round=none) (hn:1<=n) (l Bs n₀ b cap:Nat) (hmax:cap<=9223372036854775807) (hlc:ks.length<=cap) (hb:b<n₀) (J Jx:List (zne ks)->World->Prop)
 (hY:∀pre x W,J pre W->pre.length<ks.length->YieldAt F (n-1) Tryz.prog l (zlZ M ks x) W λe W'=>
   (e=.returned (.bool true)/\J (pre ++ [x]) W'/\Below n₀ W W')\/(e=.returned (.bool false)/\Jx (pre ++ [x]) W'))
 (W:World) (hBn:Bs<n₀) (hBs:W.cell? ⟨Bs,0,none⟩=some (.slice (some ⟨b,0,none⟩) ks.length cap)) (hc:∀j u,ks[j]?=some u->W.cell? ⟨b,j,none⟩=some (M.ptr u.n)) (h0:J [] W):
 CallsIn F n Tryz.prog 195 #[.func (.yield l) #[] #[],.pointer (some ⟨Bs,0,none⟩)] W λe W'=>(∃v,e=.returned v) ∧
  ((∃ys,ys.map Prod.snd=ks.attach.reverse/\J ys W')\/(∃pre,pre.map Prod.snd <+: ks.attach.reverse/\Jx pre W')):=by
 refine callsIn_of_wp Tryz.func195 rfl hf ?_ hro;simp only[Tryz.ntmps195,List.size_toArray,List.length_cons,List.length_nil,Nat.reduceAdd,Nat.reduceSub,Array.replicate_succ,Array.replicate_zero,List.push_toArray,List.append_toArray,List.nil_append,List.cons_append];gi_wp2
 gi_loopw [3] (λi wr=>∃(k:Nat) (pre:List (zne ks)),k<=ks.length/\i=.int .i64 ((ks.length:Int)-1-k)/\pre.map Prod.snd=ks.attach.reverse.take k/\J pre wr/\Below n₀ W wr)
  (λi _=>(intOf i+1).toNat)
 case atStart=>exact⟨0,[],Nat.zero_le _,by simp,rfl,h0,Below.refl _ _⟩
 case round=>
  obtain⟨k,pre,hk,rfl,hp,hJs,hnx⟩:=hrel;have hBs':=(hnx.cell (p:=⟨Bs,0,none⟩) hBn).trans hBs;have hpl:pre.length=k:=by
   have:=congrArg List.length hp;simp at this;omega
  by_cases hlt:k<ks.length
  ·obtain⟨u,hu,hru⟩:=zt2 ks k hlt;obtain⟨m,hm⟩:∃m:Nat,ks.length-1-k=m:=⟨_,rfl⟩;have hmi:(ks.length:Int)-1-k=m:=by omega
   rw[hm] at hu;have hcx:=(hnx.cell (p:=⟨b,m,none⟩) hb).trans (hc m u.1 hu);have hml:m<ks.length:=by omega
   obtain⟨fn,tmps,assign,body,hy,hR⟩:=hY _ (m,u) wr hJs (by omega);dsimp only[zlZ] at hy;rw[hmi];have Hm:=zH hmi;clear hmi hm;gi_wp2;refine hR.mono ?_;rintro e W3 (⟨rfl,hJ3,hk3⟩|⟨rfl,hJx3⟩)
   ·gi_wp2;go_roundw
    case rel=>
     refine⟨k+1,pre ++ [(m,u)],by omega,?_,?_,hJ3,hnx.trans hk3⟩
     ·have:=Hm.out;simp;omega
     ·rw[List.map_append,hp,List.take_add_one,hru];rfl
    case measure=>simp[intOf]
   ·gi_wp2;refine bodyPost_ret (results_none rfl _ _ _) rfl ?_;refine⟨⟨_,rfl⟩,.inr ⟨_,?_,hJx3⟩⟩;have:(pre ++ [(m,u)]).map Prod.snd=ks.attach.reverse.take (k+1):=by rw[List.map_append,hp,List.take_add_one,hru];rfl
    rw[this];exact List.take_prefix _ _
  ·obtain rfl:k=ks.length:=by omega
   have hz:(ks.length:Int)-1-ks.length = -1:=by omega
   rw[hz];gi_wp2;go_end0;refine⟨⟨_,rfl⟩,.inl ⟨_,?_,hJs⟩⟩;rw[hp];exact List.take_of_length_le (by simp)
theorem zl0 (ks:List Wn) (F:Fence) (n:Nat) (hf:F.fn 195) (hro:F.round=none) (l Bs cap:Nat) (p:Option Addr) (J:List (zne ks)->World->Prop) (W:World) (hBs:W.cell? ⟨Bs,0,none⟩=some (.slice p 0 cap)) (h0:J [] W):
 CallsIn F n Tryz.prog 195 #[.func (.yield l) #[] #[],.pointer (some ⟨Bs,0,none⟩)] W λe W'=>(∃v,e=.returned v)/\J [] W':=by
 refine callsIn_of_wp Tryz.func195 rfl hf ?_ hro;simp only[Tryz.ntmps195,List.size_toArray,List.length_cons,List.length_nil,Nat.reduceAdd,Nat.reduceSub,Array.replicate_succ,Array.replicate_zero,List.push_toArray,List.append_toArray,List.nil_append,List.cons_append];gi_wp2
 gi_loopw [3] (λi wr=>i=.int .i64 (-1)/\J [] wr) (λ_ _=>0)
 case atStart=>exact⟨rfl,h0⟩
 case round=>
  obtain⟨rfl,hJs⟩:=hrel;gi_wp2;go_end0;exact⟨⟨_,rfl⟩,hJs⟩
theorem zl1 (M:Mm) (ks:List Wn) (F:Fence) (n:Nat) (hf:F.fn 195) (hro:F.round=none) (hn:1<=n) (Bs n₀ cap:Nat) (p:Option Addr) (hmax:cap<=9223372036854775807) (hlc:ks.length<=cap) (w:World) (hBs:Bs<n₀) (hn₀:n₀<=w.heap.size)
 (hc:w.cell? ⟨Bs,0,none⟩=some (.slice p ks.length cap)) (hI:∀j u,ks[j]?=some u->∃b,p=some ⟨b,0,none⟩/\b<n₀/\w.cell? ⟨b,j,none⟩=some (M.ptr u.n)):
 SeqStopsK F n Tryz.prog 195 #[.pointer (some ⟨Bs,0,none⟩)] (zlZ M ks) (Below n₀) (λys=>ys.map Prod.snd=ks.attach.reverse) (λpre=>pre.map Prod.snd <+: ks.attach.reverse) ks.length w:=λl J Jx W hW _ _ hY h0=>by
 have hc':=(hW.cell (p:=⟨Bs,0,none⟩) (Nat.lt_of_lt_of_le hBs hn₀)).trans hc;rcases Nat.eq_zero_or_pos ks.length with hz|hz
 ·rw[hz] at hc';obtain rfl:=List.length_eq_zero_iff.1 hz;exact(zl0 [] F n hf hro l Bs cap p J W hc' h0).mono λe W' ⟨he,hj⟩=>⟨he,.inl ⟨[],rfl,hj⟩⟩
 ·obtain⟨b,rfl,hb,_⟩:=hI 0 _ (List.getElem?_eq_getElem hz);refine zvw M ks F n hf hro hn l Bs n₀ b cap hmax hlc hb J Jx hY W hBs hc' (λj u hu=>?_) h0;obtain⟨b',e,_,hcell⟩:=hI j u hu;obtain rfl:b=b':=by simpa using e
  exact(hW.cell (p:=⟨b,j,none⟩) (Nat.lt_of_lt_of_le hb hn₀)).trans hcell
theorem zrY (F:Fence) (n:Nat) (hf:F.fn 169) (hro:F.round=none) (a:Option Addr) (len cap:Nat) (w:World):
 CallsIn F n Tryz.prog 169 #[.slice a len cap] w λe w'=>e=.returned (.func (.func 195) #[] #[.pointer (some ⟨w.heap.size,0,none⟩)])/\w'=w.alloc (.cells #[.slice a len cap] 129):=by
 refine callsIn_of_wp Tryz.func169 rfl hf ?_ hro;simp only[Tryz.ntmps169,List.size_toArray,List.length_cons,List.length_nil,Nat.reduceAdd,Nat.reduceSub,Array.replicate_succ,Array.replicate_zero,List.push_toArray,List.append_toArray,List.nil_append,List.cons_append];gi_wp2;go_ret;exact⟨rfl,rfl⟩
theorem zev (W:World) (n:Nat):KeepsOthers W (W.drewN n):=⟨Nat.le_refl _,λ_ _ h _=>h⟩
theorem zcQ (B:Nat) (W:World) (n:Nat):Below B W (W.drewN n):=⟨rfl,rfl,rfl,Nat.le_refl _,λ_ _=>rfl⟩
theorem zt3 (M:Mm) (v:Wn) (ks:List Wn) (bn cn gn:Nat) (pp:Option Addr) (sv:Value) (x y:Int) (w:World) (h:Z9 w v bn cn gn pp sv (M.ptrs ks))
 (hw:∀u∈ks,∃pp sv vs,Z9 w u (M.b u.n) (M.c u.n) (M.g u.n) pp sv vs) (hb:∀u∈ks,-1000<=u.x/\u.x<=1000/\-1000<=u.y/\u.y<=1000) (hx:-2000<=x/\x<=2000/\-2000<=y/\y<=2000):
 Calls Tryz.prog 145 #[.pointer (some ⟨bn,0,none⟩),.int .i64 x,.int .i64 y] w λe w'=>e=.returned (.pointer ((ks.reverse.find? (hit x y)).map (λu=>⟨M.b u.n,0,none⟩)))/\Below w.heap.size w w':=by
 have c6:=h.f6;have hbn:=h.lt;obtain⟨p,cap,rfl,hcap,hmax,hcell⟩:=zdX h.row;have Hc:=zH hcell;have Hw:=zH hw;have Hb:=zH hb;rw[M.ptrs_len] at *;have c6':∀o1 o2 o3,(((w.alloc o1).alloc o2).alloc o3).cell? ⟨bn,6,none⟩=some (.slice p ks.length cap):=λo1 o2 o3=>by
  have hB:Below w.heap.size w (((w.alloc o1).alloc o2).alloc o3):=(((Below.refl _ w).alloc (Nat.le_refl _) _).alloc (by simp) _).alloc (by simp;omega) _;rw[hB.cell (p:=⟨bn,6,none⟩) hbn];exact c6
 clear h hcell hw hb;refine(callsIn_wide (n:=5)).1 ?_;have hro:Fence.wide.round=none:=rfl;refine callsIn_of_wp_marks Tryz.func145 rfl trivial ?_ hro;simp only[Tryz.ntmps145,List.size_toArray,List.length_cons,List.length_nil,Nat.reduceAdd,Nat.reduceSub,Array.replicate_succ,Array.replicate_zero,List.push_toArray,List.append_toArray,List.nil_append,List.cons_append]
 gi_wp2_with (refine⟨trivial,?_⟩;gi_at_call 169;refine(zrY Fence.wide _ trivial hro _ _ _ _).mono ?_;rintro e w' ⟨rfl,rfl⟩)
 have bX:=Boxed.new w 3 (.int .i64 x);have bY:=Boxed.new (w.alloc (.cells #[.int .i64 x] 3)) 3 (.int .i64 y);have bR:=Boxed.new ((w.alloc (.cells #[.int .i64 x] 3)).alloc (.cells #[.int .i64 y] 3)) 111 (.pointer none);have bN:=Boxed.new (((w.alloc (.cells #[.int .i64 x] 3)).alloc (.cells #[.int .i64 y] 3)).alloc (.cells #[.pointer none] 111)) 129 (.slice p ks.length cap);simp only[World.size_alloc] at bY bR bN;obtain⟨W0,hW0⟩:∃W0,((((w.alloc (.cells #[.int .i64 x] 3)).alloc (.cells #[.int .i64 y] 3)).alloc (.cells #[.pointer none] 111)).alloc (.cells #[.slice p ks.length cap] 129))=W0:=⟨_,rfl⟩;have hB0:Below w.heap.size w W0:=by rw[←hW0];exact((((Below.refl _ w).alloc (Nat.le_refl _) _).alloc (by simp) _).alloc (by simp;omega) _).alloc (by simp;omega) _
 have bX0:=((bX.alloc (.cells #[.int .i64 y] 3)).alloc (.cells #[.pointer none] 111)).alloc (.cells #[.slice p ks.length cap] 129);have bY0:=(bY.alloc (.cells #[.pointer none] 111)).alloc (.cells #[.slice p ks.length cap] 129);have bR0:=bR.alloc (.cells #[.slice p ks.length cap] 129);rw[hW0] at bX0 bY0 bR0 bN ⊢;have hsz:W0.heap.size=w.heap.size+4:=by rw[←hW0];simp
 clear bX bY bR hW0 c6';refine wpIn_rangeFunc_ownG hro (by omega) (gf:=195) (lb:=#[.pointer (some ⟨w.heap.size+1+1+1,0,none⟩)]) rfl trivial (enters_of Tryz.func195 (by kernel_rfl) rfl)
  (zl1 M ks Fence.wide (5-1) trivial hro (by omega) (w.heap.size+1+1+1) (w.heap.size+4) cap p hmax hcap _ (by omega) (by omega) bN.cell ?seq) belowK_t (belowK_b (by omega)) (Below.refl _ _) (λ_=>rfl)
  (λpre W=>((∀q∈pre,hit x y q.2.1=false)/\Boxed W w.heap.size 3 (.int .i64 x)/\Boxed W (w.heap.size+1) 3 (.int .i64 y)/\Boxed W (w.heap.size+1+1) 111 (.pointer none))/\Below w.heap.size w W)
  (λc pre W=>(c=.ret/\∃ini last,pre=ini ++ [last]/\(∀q∈ini,hit x y q.2.1=false)/\hit x y last.2.1=true/\Boxed W (w.heap.size+1+1) 111 (M.ptr last.2.1.n))/\Below w.heap.size w W)
  ?own ?ownx ?start
  (λq=>{tmps:=#[.pointer (some ⟨bn,0,none⟩),.int .i64 x,.int .i64 y,undef,.pointer (some ⟨w.heap.size,0,none⟩),.pointer (some ⟨w.heap.size+1,0,none⟩),.pointer (some ⟨w.heap.size+1+1,0,none⟩),undef,M.ptr q.2.1.n,.pointer (some ⟨bn,0,none⟩),.pointer (some ⟨bn,0,none⟩),.pointer (some ⟨bn,6,none⟩),.slice p ks.length cap,.func (.func 195) #[] #[.pointer (some ⟨w.heap.size+1+1+1,0,none⟩)],.int .i64 (q.1:Int),M.ptr q.2.1.n,undef,undef,undef,undef,undef,undef,undef,undef,undef,undef,undef,undef,undef,undef,undef,undef,undef,undef,undef,undef,undef,undef,undef,undef],defers:=[]}) ?assign ?body ?done ?stop
 case seq=>
  intro j u hu;obtain⟨ib,rfl,hc⟩:=Hc.out j _ (Mm.ptrs_at hu);have hl:ib<w.heap.size:=World.block_lt_of_cell? _ _ hc;exact⟨ib,rfl,by omega,by rw[hB0.cell (p:=⟨ib,j,none⟩) hl];exact hc⟩
 case own=>
  exact OwnFrom.and (OwnFrom.and (ownFrom_pure _ _) (OwnFrom.and (Own.from (boxed_own _ _ _) _) (OwnFrom.and (Own.from (boxed_own _ _ _) _) (Own.from (boxed_own _ _ _) _)))) (ownFrom_below (Nat.le_refl _) (by omega))
 case ownx=>
  intro c;refine OwnFrom.and (Own.from (λs A B row hs hg hr=>?_) _) (ownFrom_below (Nat.le_refl _) (by omega));obtain⟨hc,ini,last,e1,e2,e3,e4⟩:=hs;exact⟨hc,ini,last,e1,e2,e3,boxed_own (β:=Unit) _ _ (λ_=>M.ptr last.2.1.n) () A B row e4 hg hr⟩
 case start=>exact⟨⟨by simp,bX0,bY0,bR0⟩,hB0⟩
 case assign=>
  intro l q W K hK;gi_wp2;exact hK
 case body=>
  rintro l pre ⟨q1,u,hu⟩ W ⟨⟨hp,bx,by',br⟩,hB⟩ _;dsimp only;have hx1:=bx.cell;have hy1:=by'.cell;have hr1:=br.cell;have hf1:=br.frozen;obtain⟨pp',sv',vs',hV⟩:=Hw.out u hu;have G:=hV.gr.same (hB.block _ hV.gr.lt) (hB.block _ hV.gr.glt);have HG:=zH G;have f2:=(hB.cell (p:=⟨M.b u.n,2,none⟩) hV.lt).trans hV.f2;have f3:=(hB.cell (p:=⟨M.b u.n,3,none⟩) hV.lt).trans hV.f3;have f4:=(hB.cell (p:=⟨M.b u.n,4,none⟩) hV.lt).trans hV.f4;have f5:=(hB.cell (p:=⟨M.b u.n,5,none⟩) hV.lt).trans hV.f5;obtain⟨b1,b2,b3,b4⟩:=Hb.out u hu;clear hV G;have hfn:Fence.wide.fn 103:=trivial;cases hsh:u.sh with
  |false=>
   rw[hsh] at f4;gi_wp2;refine zgB l rfl (by kernel_rfl) (by kernel_rfl) (by kernel_rfl) ?_;repeat (gi_big_quiet_step (fail))
   refine wpQuietIn_nil ?_;intro _ hw';obtain⟨nq,hw''⟩:=hw';subst hw'';gi_wp2;have hh:hit x y u=false:=by simp[hit,hsh]
   exact⟨(zev W nq).from _,zcQ _ W nq,⟨λq hq=>(List.mem_append.1 hq).elim (hp q) (λe=>by simp at e;subst e;exact hh),bx,by',br⟩,hB.trans (zcQ _ W nq)⟩
  |true=>
   rw[hsh] at f4;gi_wp2;refine zgB l rfl (by kernel_rfl) (by kernel_rfl) (by kernel_rfl) ?_;repeat (gi_big_quiet_step (first|(gi_at_call 103;refine CallsIn.quiet_of_same (callsIn_wide.2 (zlU _ _ _ _ _ _ _ _ _ (HG.out.same rfl rfl))))))
   refine wpQuietIn_nil ?_;intro _ hw';obtain⟨nq,hw''⟩:=hw';subst hw'';gi_wp2
   ·have hin:inG u.W u.H (x-u.x) (y-u.y)=true:=by assumption
    have hh:hit x y u=true:=by simp[hit,hsh,hin]
    refine⟨?_,⟨rfl,pre,(q1,⟨u,hu⟩),rfl,hp,hh,br.set (M.ptr u.n)⟩,?_⟩
    ·exact((zev W nq).trans (KeepsOthers.setCell (W.drewN nq) _ _)).from _
    ·exact(hB.trans (zcQ _ W nq)).setCell (p:=⟨w.heap.size+1+1,0,none⟩) (by simp;omega) _
   ·have hin:inG u.W u.H (x-u.x) (y-u.y)=false:=by assumption
    have hh:hit x y u=false:=by simp[hit,hsh,hin]
    exact⟨(zev W nq).from _,zcQ _ W nq,⟨λq hq=>(List.mem_append.1 hq).elim (hp q) (λe=>by simp at e;subst e;exact hh),bx,by',br⟩,hB.trans (zcQ _ W nq)⟩
 case done=>
  rintro D ys W hD hys ⟨⟨hne,_,_,br⟩,hB⟩ hK;have hcr:=br.cell;have hfr:=br.frozen;have hnone:Hid (ks.reverse.find? (hit x y)=none):=by
   show ks.reverse.find? (hit x y)=none;rw[List.find?_eq_none];intro u hu;have hu':=List.mem_reverse.1 hu;have hm:(⟨u,hu'⟩:{u:Wn // u∈ks})∈ys.map Prod.snd:=by rw[hys];simp
   obtain⟨q,hq,e⟩:=List.mem_map.1 hm;have:=hne q hq;rw[e] at this;simp[this]
  gi_wp2;have hK':=(KeepsOthers.setCell W ⟨w.heap.size+1+1,0,none⟩ (.pointer none)).same D _ hK rfl;refine⟨by simp,.inl ⟨_,_,rfl,run_takeDeferred hK',?_⟩⟩;have hc5:=cell_kept (World.cell?_setCell_same' W ⟨w.heap.size+1+1,0,none⟩ (.pointer none) (by rw[hcr];rfl)) (grownBy_putObj' _ D (.deferred none)) (λr e=>by cases e;exact⟨_,hK',rfl⟩);refine⟨.pointer none,?_,by rw[hnone.out];rfl,(hB.setCell (p:=⟨w.heap.size+1+1,0,none⟩) (by simp;omega) _).trans (belowK_b (w:=w) (Nat.le_refl _) _ D _ _ (by omega) hK' rfl rfl)⟩;simp[results,Tryz.f145,go_sem,hc5]
 case stop=>
  rintro D c pre W hD hpre ⟨⟨rfl,ini,last,e1,e2,e3,br⟩,hB⟩ hK;have hcr:=br.cell;have hsome:Hid (ks.reverse.find? (hit x y)=some last.2.1):=by
   show ks.reverse.find? (hit x y)=some last.2.1;obtain⟨rest,hrest⟩:=hpre;have e:ks.reverse=(ini.map (λq=>q.2.1))++last.2.1::rest.map Subtype.val:=by
    have:=congrArg (List.map Subtype.val) hrest;rw[e1] at this;simpa[Function.comp_def] using this.symm
   rw[e,List.find?_append,List.find?_eq_none.2,Option.none_or,List.find?_cons_of_pos e3];intro u hu;obtain⟨q,hq,rfl⟩:=List.mem_map.1 hu;simp[e2 q hq]
  gi_wp2;refine⟨by simp,.inl ⟨_,_,rfl,run_takeDeferred hK,?_⟩⟩;have hc5:=cell_kept hcr (grownBy_putObj' _ D (.deferred none)) (λr e=>by cases e;exact⟨_,hK,rfl⟩);refine⟨M.ptr last.2.1.n,?_,by rw[hsome.out];rfl,hB.trans (belowK_b (w:=w) (Nat.le_refl _) W D _ _ (by omega) hK rfl rfl)⟩;simp[results,Tryz.f145,go_sem,hc5]
end
section
open Go.RowKit
attribute [local go_sem ↓] Go.wp_at_zero Go.wp_at_succ
open Classical in
noncomputable def rkOf (M:Mm) (L:List Wn) (rk:Int->Nat) (K:Nat) (p:Value):Nat:=if h:∃v∈L,p=M.ptr v.n then K-rk h.choose.n else 0
theorem zI.b_inj {w:World} {M:Mm} {L:List Wn} {last:Int} {N:Nat} {s:Rs} {t:Pt} (h:zI w M L last N s t) {u v:Wn} (hu:u∈L) (hv:v∈L) (e:M.b u.n=M.b v.n):u.n=v.n:=by
 have:=h.inj (.win u.n 0) (.win v.n 0) (M.b u.n) ⟨by omega,u,hu,rfl⟩ ⟨by omega,v,hv,rfl⟩ rfl (by rw[e];rfl);injection this
theorem znf {w:World} {M:Mm} {L:List Wn} {last:Int} {N:Nat} {s:Rs} {t:Pt} (h:zI w M L last N s t) (rk:Int->Nat) (K:Nat) {v:Wn} (hv:v∈L):rkOf M L rk K (M.ptr v.n)=K-rk v.n:=by
 have hex:∃u∈L,M.ptr v.n=M.ptr u.n:=⟨v,hv,rfl⟩;unfold rkOf;rw[dif_pos hex];obtain⟨h1,h2⟩:=hex.choose_spec;have e:M.b v.n=M.b hex.choose.n:=by simpa using h2
 have:=h.b_inj hv h1 e;exact congrArg (λn=>K-rk n) this.symm
theorem zty {M:Mm} {L:List Wn} {last:Int} {N:Nat} {s:Rs} {t:Pt} {rk:Int->Nat} {K:Nat} (T:ZR L rk K) (ok:ZK L last) (w:World) (h:zI w M L last N s t) (r:Wn) (hr:r∈L) (hr0:r.n=0) (x y:Nat) (hx:x<r.W) (hy:y<r.H):
 Calls Tryz.prog 104 #[.pointer (some ⟨M.t 1,0,none⟩),.int .i64 x,.int .i64 y] w λe w'=>∃(v:Wn) (a b:Nat),v∈L/\a<v.W/\b<v.H/\zaf L K r x y=(v,(a:Int),(b:Int))/\e=.returned (.tuple #[M.ptr v.n,(v.G a b).agg])/\Below w.heap.size w w':=by
 have HD:=zH h;have HT:=zH T;have Hok:=zH ok;have d0:=h.d0;have d0':∀o,(w.alloc o).cell? ⟨M.t 1,0,none⟩=some (M.ptr 0):=λo=>by rw[((Below.refl w.heap.size w).alloc (Nat.le_refl _) o).cell (p:=⟨M.t 1,0,none⟩) (h.lt (Zg M L 1 (by omega)))];exact d0
 have Hr0:Hid (M.ptr 0=M.ptr r.n):=by rw[hr0];rfl
 clear h T ok;go_in;go_wp2_with fail;have hb0:Below w.heap.size w (w.alloc (.cells #[.int .i32 0,.int .i64 0,.int .i64 0,.int .i64 0,.bool false,.bool false,.bool false] 38)):=(Below.refl _ _).alloc (Nat.le_refl _) _;have hc0:zv (w.alloc (.cells #[.int .i32 0,.int .i64 0,.int .i64 0,.int .i64 0,.bool false,.bool false,.bool false] 38)) w.heap.size 0 ⟨0,0,Pn.plain⟩:=by
  have:=zf w (.cells #[.int .i32 0,.int .i64 0,.int .i64 0,.int .i64 0,.bool false,.bool false,.bool false] 38);refine⟨?_,?_,?_,?_,?_,?_,?_⟩<;>rw[za this]<;>rfl
 have hf0:=ze (zf w (.cells #[.int .i32 0,.int .i64 0,.int .i64 0,.int .i64 0,.bool false,.bool false,.bool false] 38));go_loopw[8,1,2] (λp sx sy wr=>∃(v:Wn) (a b f:Nat),v∈L/\a<v.W/\b<v.H/\K<=rk v.n+f/\p=M.ptr v.n/\sx=.int .i64 a/\sy=.int .i64 b/\zaf L f v a b=zaf L K r x y/\Below w.heap.size w wr/\zv wr w.heap.size 0 ⟨0,0,Pn.plain⟩/\(∀o,wr.frozen? ⟨w.heap.size,o,none⟩=false)) (λp _ _ _=>rkOf M L rk K p)
 case atStart=>exact⟨r,x,y,K,hr,hx,hy,by omega,Hr0.out,rfl,rfl,rfl,hb0,hc0,hf0⟩
 case round=>
  obtain⟨v,a,b,f,hv,ha,hb,hk,rfl,rfl,rfl,ho,hB,hC,hF⟩:=hrel;have D1:=HD.out.below hB;have HD1:=zH D1;have hV:=D1.win v hv;have hw2:=hV.gr.w2;have hh2:=hV.gr.h2;have Hs:=HT.out.ownSucc hv hk a b;have hup:=zt3 M v (zy L v.n) (M.b v.n) (M.c v.n) (M.g v.n) (M.pp v.par) (M.s v.n) a b wr hV (λu hu=>⟨_,_,_,D1.win u (Ze.1 hu).1⟩) (λu hu=>Hok.out.pl u (Ze.1 hu).1) (by omega);change Calls _ _ _ _ (λe w'=>e=.returned (.pointer ((zcw L v.n a b).map (λu=>⟨M.b u.n,0,none⟩)))/\Below wr.heap.size wr w') at hup;have hbl:=hC.lt;cases hn:zcw L v.n a b with
  |none=>
   rw[hn] at hup Hs;have Hup:Hid (Calls Tryz.prog 145 #[.pointer (some ⟨M.b v.n,0,none⟩),.int .i64 a,.int .i64 b] wr λe w'=>e=.returned (.pointer none)/\Below wr.heap.size wr w'):=hup;have f5:=hV.f5;have Ho:Hid (zaf L K r x y=(v,(a:Int),(b:Int))):=by rw[←ho];exact Hs
   clear hup Hs ho D1;go_wp2_with fail;go_at_call 145;refine Hup.out.mono ?_;rintro e w2 ⟨rfl,hb2⟩;have f5':=(hb2.cell (p:=⟨M.b v.n,5,none⟩) hV.lt).trans f5;have G2:=hV.gr.below hb2;have HG2:=zH G2;have C2:=hC.below hb2 hbl;have F2:=λo=>(hb2.marks hbl o).trans (hF o);have B2:=hB.trans (hb2.mono hB.size);have HV:=zH hV;have hbl2:=C2.lt;clear hV f5 G2 hC hF hB hb2 Hup;go_wp2_with fail;go_at_call 146;refine(zts _ _ _ _ _ _ _ _ _ HG2.out ha hb).mono ?_;rintro e w3 ⟨rfl,hb3⟩;have C3:=C2.below hb3 hbl2;have F3:=λo=>(hb3.marks hbl2 o).trans (F2 o);have B3:=B2.trans (hb3.mono B2.size);obtain⟨t0,t1,t2,t3,t4,t5,t6⟩:=C3;clear C2 F2 hb3;go_wp2_with fail;have C4:=zai (c:=v.G a b) (show zv w3 w.heap.size 0 ⟨0,0,Pn.plain⟩ from⟨t0,t1,t2,t3,t4,t5,t6⟩);have B4:=((zd.below (λi=>i=w.heap.size) B3).put7 w.heap.size 0 (v.G a b) (λh=>rfl)).toBelow (Nat.le_refl _) (λi hi=>by omega);change bodyPost _ _ _ _ _ (put7 w3 w.heap.size 0 (v.G a b));generalize put7 w3 w.heap.size 0 (v.G a b)=w4 at *;obtain⟨q0,q1,q2,q3,q4,q5,q6⟩:=C4;refine bodyPost_ret (v:=.tuple #[M.ptr v.n,(v.G a b).agg]) ?_ rfl ⟨v,a,b,hv,ha,hb,Ho.out,rfl,B4⟩;simp[results,Tryz.results104,go_sem,q0,q1,q2,q3,q4,q5,q6]
  |some u=>
   obtain⟨hu,hp,hsh,hin⟩:=zcX hn;rw[hn] at hup Hs;have Hup:Hid (Calls Tryz.prog 145 #[.pointer (some ⟨M.b v.n,0,none⟩),.int .i64 a,.int .i64 b] wr λe w'=>e=.returned (M.ptr u.n)/\Below wr.heap.size wr w'):=hup;obtain⟨i1,i2,i3,i4⟩:=zu.1 hin;obtain⟨a',ha'⟩:=Int.eq_ofNat_of_zero_le i1;obtain⟨b',hb'⟩:=Int.eq_ofNat_of_zero_le i3;have hU:=D1.win u hu;have f2:=hU.f2;have f3:=hU.f3;have hrk:=(HT.out.up u hu (by have:=HT.out.pos hv;omega)).2;rw[hp] at hrk;have hle:=HT.out.le u hu;have Hn1:Hid (K<=rk u.n+(f-1)):=by show K<=rk u.n+(f-1);omega
   have Ho:Hid (zaf L (f-1) u (a':Int) (b':Int)=zaf L K r x y):=by show _=_;rw[←ho,←ha',←hb'];exact Hs.symm
   have Hm:Hid (rkOf M L rk K (M.ptr u.n)<rkOf M L rk K (M.ptr v.n)):=by show _<_;rw[znf D1 rk K hu,znf D1 rk K hv];omega
   have Hl:Hid (a'<u.W/\b'<u.H):=by show _/\_;omega
   have la:a'<=40:=by have:=hU.gr.w2;omega
   have lb:b'<=40:=by have:=hU.gr.h2;omega
   have HU:=zH hU;clear hup Hs ho D1 hV hin hn i1 i2 i3 i4 hrk hle hk hU;go_wp2_with fail;go_at_call 145;refine Hup.out.mono ?_;rintro e w2 ⟨rfl,hb2⟩;have g2:=(hb2.cell (p:=⟨M.b u.n,2,none⟩) HU.out.lt).trans f2;have g3:=(hb2.cell (p:=⟨M.b u.n,3,none⟩) HU.out.lt).trans f3;have C2:=hC.below hb2 hbl;have F2:=λo=>(hb2.marks hbl o).trans (hF o);have B2:=hB.trans (hb2.mono hB.size);clear f2 f3 hC hF hB hb2 Hup;go_wp2_with fail;go_quiet (fail);go_wp2_with fail;exact⟨⟨u,a',b',f-1,hu,Hl.out.1,Hl.out.2,Hn1.out,rfl,rfl,rfl,Ho.out,B2.trans (zcQ _ w2 nq),C2,F2⟩,Hm.out⟩
theorem zrZ {M:Mm} {L:List Wn} {last:Int} {N:Nat} {s:Rs} {t:Pt} (w:World) (h:zI w M L last N s t) (r:Wn) (hr:r∈L) (hr0:r.n=0) (x y:Int):
 Calls Tryz.prog 42 #[.pointer (some ⟨M.t 1,0,none⟩),.int .i64 x,.int .i64 y] w λe w'=>e=.returned (.bool (inG r.W r.H x y))/\w'=w:=by
 have hV:=h.win r hr;rw[hr0] at hV;have d0:=h.d0;have f5:=hV.f5;have HG:=zH hV.gr;clear hV h;go_in;go_wp2_with (first|(go_at_call 103;refine sM (zlU _ _ _ _ _ _ _ _ _ HG.out) ?_));go_ret;exact⟨rfl,rfl⟩
abbrev Z7:Array Value:=#[.int .i32 0,.int .i64 0,.int .i64 0,.int .i64 0,.bool false,.bool false,.bool false]
abbrev zbi (c:zk):Array Value:=#[.int .i32 c.r,.int .i64 c.p,.int .i64 c.n.f,.int .i64 c.n.b,.bool c.n.bo,.bool c.n.un,.bool c.n.re]
theorem znR {w:World} {b:Nat} {c:zk} {t:TypeId} (h:w.heap[b]?=some (.cells (zbi c) t)):zv w b 0 c:=by
 refine⟨?_,?_,?_,?_,?_,?_,?_⟩<;>rw[za h]<;>rfl
theorem zaq (w:World) (c:zk) (t:TypeId):zv (w.alloc (.cells (zbi c) t)) w.heap.size 0 c:=znR (zf w _)
theorem zng:(Tryz.prog.info? 131).map (λi=>i.size)=some 7:=by kernel_rfl
theorem zhv (a:Addr) (w:World):(binOp .eql 111 (.pointer (some a)) (.pointer (some a))).run Tryz.prog w=.ok (.bool true) w:=by
 obtain⟨j,hj,_⟩:=Option.map_eq_some_iff.1 zng;exact run_eql_ptr_same w a Tryz.underlying111 hj
theorem zf6 {a b:Addr} {ca cb:Array Value} {ta tb:TypeId} (w:World) (hne:a≠b) (ha:w.heap[a.block]?=some (.cells ca ta)) (hb:w.heap[b.block]?=some (.cells cb tb)):(binOp .eql 111 (.pointer (some a)) (.pointer (some b))).run Tryz.prog w=.ok (.bool false) w:=by
 obtain⟨j,hj,hs⟩:=Option.map_eq_some_iff.1 zng;exact run_eql_ptr_other w Tryz.underlying111 hj (by omega) hne ha hb
def noC:zk:=⟨0,0,Pn.plain⟩
theorem ztz {M:Mm} {L:List Wn} {last:Int} {N:Nat} {s:Rs} {t:Pt} {rk:Int->Nat} {K:Nat} (T:ZR L rk K) (ok:ZK L last) (w:World) (h:zI w M L last N s t) (r:Wn) (hr:r∈L) (hr0:r.n=0) (o:Wn) (ho:o∈L) (c:zk) (x y:Int) (res:zk) (hres:res=za6 L K r o c x y):
 Calls Tryz.prog 105 #[.pointer (some ⟨M.t 1,0,none⟩),M.ptr o.n,c.agg,.int .i64 x,.int .i64 y] w λe w'=>e=.returned res.agg/\Below w.heap.size w w':=by
 have HD:=zH h;have HT:=zH T;have Hok:=zH ok;have Hres:=zH hres;have Hbi:Hid (∀u∈L,u.n≠o.n->M.b u.n≠M.b o.n):=λu hu e e'=>e (h.b_inj hu ho e');clear h T ok hres;go_in;go_wp2_with fail;have hb0:Below w.heap.size w ((w.alloc (.cells (zbi c) 38)).alloc (.cells Z7 38)):=((Below.refl _ _).alloc (Nat.le_refl _) _).alloc (by simp) _;have C1:zv ((w.alloc (.cells (zbi c) 38)).alloc (.cells Z7 38)) w.heap.size 0 c:=(zaq w c _).below ((Below.refl _ _).alloc (Nat.le_refl _) _) (by simp);have C2:zv ((w.alloc (.cells (zbi c) 38)).alloc (.cells Z7 38)) (w.heap.size+1) 0 noC:=by
  have:=zaq (w.alloc (.cells (zbi c) 38)) noC 38;rw[World.size_alloc] at this;exact this
 have F2:∀o,((w.alloc (.cells (zbi c) 38)).alloc (.cells Z7 38)).frozen? ⟨w.heap.size+1,o,none⟩=false:=by
  have:=ze (zf (w.alloc (.cells (zbi c) 38)) (.cells Z7 38));rw[World.size_alloc] at this;exact this
 generalize (w.alloc (.cells (zbi c) 38)).alloc (.cells Z7 38)=wa at *;have HDa:=zH<|HD.out.below hb0
 clear HD;have l2:=C2.lt;by_cases hin:inG r.W r.H x y=true
 ·obtain⟨i1,i2,i3,i4⟩:=zu.1 hin;obtain⟨x,rfl⟩:=Int.eq_ofNat_of_zero_le i1;obtain⟨y,rfl⟩:=Int.eq_ofNat_of_zero_le i3;have Hin:=zH hin;have hx:x<r.W:=by omega
  have hy:y<r.H:=by omega
  clear i1 i2 i3 i4;go_wp2_with (first|(go_at_call 42;refine sM (zrZ _ HDa.out r hr hr0 _ _) ?_));go_at_call 104;refine(zty HT.out Hok.out _ HDa.out r hr hr0 x y hx hy).mono ?_;rintro e wb ⟨v,a,b,hv,ha,hb,hown,rfl,hbb⟩;have D1:=C1.below hbb (by omega);have D2:=C2.below hbb (by omega);have G2:=λo=>(hbb.marks l2 o).trans (F2 o);have hB:=hb0.trans (hbb.mono hb0.size);have l3:=D2.lt;have Hown:=zH hown;have hbb':=hbb;clear hown C1 C2 F2 hbb;generalize v.G a b=vc;have hbk:Below wb.heap.size wb (wb.alloc (.cells (zbi vc) 38)):=(Below.refl _ _).alloc (Nat.le_refl _) _;have E1:=D1.below hbk (by omega);have E2:=D2.below hbk (by omega);have EF:=λo=>(hbk.marks l3 o).trans (G2 o);have EB:=hB.trans (hbk.mono hB.size);have Hwb:=zH<|hbb'.trans (hbk.mono hbb'.size)
  obtain⟨p0,p1,p2,p3,p4,p5,p6⟩:=E1;obtain⟨q0,q1,q2,q3,q4,q5,q6⟩:=E2;clear hbk D1 D2 G2 hbb';by_cases hvo:v.n=o.n
  ·have hh:res=c:=by rw[Hres.out];unfold za6;rw[if_pos ⟨Hin.out,by rw[Hown.out];exact hvo⟩]
   subst hh;go_wp2_with fail;generalize wb.alloc (.cells (zbi vc) 38)=wc at *;have heq:=zhv ⟨M.b o.n,0,none⟩ wc;have P4:=zai (c:=res) (show zv wc (w.heap.size+1) 0 noC from⟨q0,q1,q2,q3,q4,q5,q6⟩);have B4:=((zd.below (λi=>i=w.heap.size+1) EB).put7 (w.heap.size+1) 0 res (λh=>rfl)).toBelow (Nat.le_refl _) (λi hi=>by omega);rw[heq];go_simp
   go_wp2_with fail;change bodyPost _ _ _ _ _ (put7 wc (w.heap.size+1) 0 res);generalize put7 wc (w.heap.size+1) 0 res=w4 at *;obtain⟨q0,q1,q2,q3,q4,q5,q6⟩:=P4;refine bodyPost_ret (v:=res.agg) ?_ rfl ⟨rfl,B4⟩;simp[results,Tryz.results105,go_sem,q0,q1,q2,q3,q4,q5,q6]
  ·have hne:=Hbi.out v hv hvo;have hh:res=blk c.n:=by rw[Hres.out];unfold za6;rw[if_neg];rintro⟨_,e⟩;rw[Hown.out] at e;exact hvo e
   subst hh;go_wp2_with fail;generalize wb.alloc (.cells (zbi vc) 38)=wc at *;have heq:=zf6 (a:=⟨M.b v.n,0,none⟩) (b:=⟨M.b o.n,0,none⟩) wc (by simp) ((Hwb.out.block _ (HDa.out.win v hv).lt).trans (HDa.out.win v hv).blk) ((Hwb.out.block _ (HDa.out.win o ho).lt).trans (HDa.out.win o ho).blk);rw[heq];go_simp
   go_wp2_with fail;go_at_call 147;refine(zes c.n _).mono ?_;rintro e wd ⟨rfl,hbb⟩;have l4:=zv.lt (show zv wc (w.heap.size+1) 0 noC from⟨q0,q1,q2,q3,q4,q5,q6⟩);have D2:=zv.below (show zv wc (w.heap.size+1) 0 noC from⟨q0,q1,q2,q3,q4,q5,q6⟩) hbb l4;have G2:=λo=>(hbb.marks l4 o).trans (EF o);have hB5:=EB.trans (hbb.mono EB.size);have P4:=zai (c:=blk c.n) D2;have B4:=((zd.below (λi=>i=w.heap.size+1) hB5).put7 (w.heap.size+1) 0 (blk c.n) (λh=>rfl)).toBelow (Nat.le_refl _) (λi hi=>by omega);clear q0 q1 q2 q3 q4 q5 q6 hbb EF heq p0 p1 p2 p3 p4 p5 p6;obtain⟨q0,q1,q2,q3,q4,q5,q6⟩:=D2;go_wp2_with fail;change bodyPost _ _ _ _ _ (put7 wd (w.heap.size+1) 0 (blk c.n));generalize put7 wd (w.heap.size+1) 0 (blk c.n)=w4 at *;obtain⟨q0,q1,q2,q3,q4,q5,q6⟩:=P4;refine bodyPost_ret (v:=(blk c.n).agg) ?_ rfl ⟨rfl,B4⟩;simp[results,Tryz.results105,go_sem,q0,q1,q2,q3,q4,q5,q6]
 ·have hinf:inG r.W r.H x y=false:=by simpa using hin
  have hh:res=blk c.n:=by rw[Hres.out];unfold za6;rw[if_neg (by simp[hin])]
  subst hh;obtain⟨p0,p1,p2,p3,p4,p5,p6⟩:=C1;go_wp2_with (first|(go_at_call 42;refine sM (zrZ _ HDa.out r hr hr0 _ _) ?_));go_at_call 147;refine(zes c.n _).mono ?_;rintro e wb ⟨rfl,hbb⟩;have D2:=C2.below hbb (by omega);have G2:=λo=>(hbb.marks l2 o).trans (F2 o);have hB:=hb0.trans (hbb.mono hb0.size);have P4:=zai (c:=blk c.n) D2;have B4:=((zd.below (λi=>i=w.heap.size+1) hB).put7 (w.heap.size+1) 0 (blk c.n) (λh=>rfl)).toBelow (Nat.le_refl _) (λi hi=>by omega);obtain⟨q0,q1,q2,q3,q4,q5,q6⟩:=D2;clear C2 F2 hbb;go_wp2_with fail;change bodyPost _ _ _ _ _ (put7 wb (w.heap.size+1) 0 (blk c.n));generalize put7 wb (w.heap.size+1) 0 (blk c.n)=w4 at *;obtain⟨q0,q1,q2,q3,q4,q5,q6⟩:=P4;refine bodyPost_ret (v:=(blk c.n).agg) ?_ rfl ⟨rfl,B4⟩;simp[results,Tryz.results105,go_sem,q0,q1,q2,q3,q4,q5,q6]
theorem ztA {M:Mm} {L:List Wn} {last:Int} {N:Nat} {s:Rs} {t:Pt} {rk:Int->Nat} {K:Nat} (T:ZR L rk K) (ok:ZK L last) (w:World) (h:zI w M L last N s t) (r:Wn) (hr:r∈L) (hr0:r.n=0) (x y:Nat) (hx:x<r.W) (hy:y<r.H) (res:zk) (hres:res=zcx L K r x y):
 Calls Tryz.prog 43 #[.pointer (some ⟨M.t 1,0,none⟩),.int .i64 x,.int .i64 y] w λe w'=>e=.returned res.agg/\Below w.heap.size w w':=by
 have HD:=zH h;have HT:=zH T;have Hok:=zH ok;have Hres:=zH hres;have hw2:=(h.win r hr).gr.w2;have hh2:=(h.win r hr).gr.h2;clear h T ok hres;go_in;go_wp2_with fail;have hb0:Below w.heap.size w (w.alloc (.cells Z7 38)):=(Below.refl _ _).alloc (Nat.le_refl _) _;have C2:zv (w.alloc (.cells Z7 38)) w.heap.size 0 noC:=zaq w noC 38;have F2:=ze (zf w (.cells Z7 38));generalize w.alloc (.cells Z7 38)=wa at *;have HDa:=zH<|HD.out.below hb0
 clear HD;have l2:=C2.lt;go_at_call 104;refine(zty HT.out Hok.out _ HDa.out r hr hr0 x y hx hy).mono ?_;rintro e wb ⟨v,a,b,hv,ha,hb,hown,rfl,hbb⟩;have D2:=C2.below hbb l2;have G2:=λo=>(hbb.marks l2 o).trans (F2 o);have hB:=hb0.trans (hbb.mono hb0.size);have l3:=D2.lt;have HDb:=zH<|HDa.out.below hbb
 have Hown:=zH hown;clear hown C2 F2 hbb HDa hb0;have Hpic:Hid (res=if (v.G a b).p=1 then za6 L K r v (v.G a b) (x+1) y else if (v.G a b).p=2 then za6 L K r v (v.G a b) (x-1) y else v.G a b):=by
  show res=_;rw[Hres.out];unfold zcx;rw[Hown.out];rfl
 generalize v.G a b=vc at *;have hbk:Below wb.heap.size wb (wb.alloc (.cells (zbi vc) 38)):=(Below.refl _ _).alloc (Nat.le_refl _) _;have E1:=zaq wb vc 38;have E2:=D2.below hbk (by omega);have EF:=λo=>(hbk.marks l3 o).trans (G2 o);have EB:=hB.trans (hbk.mono hB.size);have HDc:=zH<|HDb.out.below hbk
 clear hbk D2 G2 hB HDb;have tail:∀(wd:World),zv wd w.heap.size 0 noC->(∀o,wd.frozen? ⟨w.heap.size,o,none⟩=false)->Below w.heap.size w wd->zv (put7 wd w.heap.size 0 res) w.heap.size 0 res/\Below w.heap.size w (put7 wd w.heap.size 0 res):=λwd h1 _ h3=>
  ⟨zai h1,((zd.below (λi=>i=w.heap.size) h3).put7 w.heap.size 0 res (λh=>rfl)).toBelow (Nat.le_refl _) (λi hi=>by omega)⟩
 have Htail:=tail;clear tail;obtain⟨vr,vp,vn⟩:=vc;have Ht2:=Htail;clear Htail;have Htail:=zH Ht2;clear Ht2;by_cases h1:vp=1
 ·subst h1;go_wp2_with fail;go_at_call 105;refine(ztz HT.out Hok.out _ HDc.out r hr hr0 v hv ⟨vr,1,vn⟩ _ _ res (by have:=Hpic.out;simpa using this)).mono ?_;rintro e wd ⟨rfl,hbd⟩;have l5:=E2.lt;have D5:=E2.below hbd l5;have G5:=λo=>(hbd.marks l5 o).trans (EF o);have B5:=EB.trans (hbd.mono EB.size);obtain⟨q0,q1,q2,q3,q4,q5,q6⟩:=id D5;clear E2 EF EB hbd HDc;go_wp2_with fail;change bodyPost _ _ _ _ _ (put7 wd w.heap.size 0 res);obtain⟨P4,B4⟩:=Htail.out wd D5 G5 B5;generalize put7 wd w.heap.size 0 res=w4 at *;obtain⟨q0,q1,q2,q3,q4,q5,q6⟩:=P4;refine bodyPost_ret (v:=res.agg) ?_ rfl ⟨rfl,B4⟩;simp[results,Tryz.results43,go_sem,q0,q1,q2,q3,q4,q5,q6]
 ·by_cases h2:vp=2
  ·subst h2;go_wp2_with fail;go_at_call 105;refine(ztz HT.out Hok.out _ HDc.out r hr hr0 v hv ⟨vr,2,vn⟩ _ _ res (by have:=Hpic.out;simpa using this)).mono ?_;rintro e wd ⟨rfl,hbd⟩;have l5:=E2.lt;have D5:=E2.below hbd l5;have G5:=λo=>(hbd.marks l5 o).trans (EF o);have B5:=EB.trans (hbd.mono EB.size);obtain⟨q0,q1,q2,q3,q4,q5,q6⟩:=id D5;clear E2 EF EB hbd HDc;go_wp2_with fail;change bodyPost _ _ _ _ _ (put7 wd w.heap.size 0 res);obtain⟨P4,B4⟩:=Htail.out wd D5 G5 B5;generalize put7 wd w.heap.size 0 res=w4 at *;obtain⟨q0,q1,q2,q3,q4,q5,q6⟩:=P4;refine bodyPost_ret (v:=res.agg) ?_ rfl ⟨rfl,B4⟩;simp[results,Tryz.results43,go_sem,q0,q1,q2,q3,q4,q5,q6]
  ·have hh:res=⟨vr,vp,vn⟩:=by have:=Hpic.out;simpa[h1,h2] using this
   subst hh;obtain⟨p0,p1,p2,p3,p4,p5,p6⟩:=E1;obtain⟨q0,q1,q2,q3,q4,q5,q6⟩:=id E2;have e1:(vp==1)=false:=by simp[h1]
   have e2:(vp==2)=false:=by simp[h2]
   generalize hwc:wb.alloc (.cells (zbi ⟨vr,vp,vn⟩) 38)=wc at *;go_wp2_with fail;change bodyPost _ _ _ _ _ (put7 wc w.heap.size 0 ⟨vr,vp,vn⟩);obtain⟨P4,B4⟩:=Htail.out wc E2 EF EB;clear q0 q1 q2 q3 q4 q5 q6;generalize put7 wc w.heap.size 0 ⟨vr,vp,vn⟩=w4 at *;obtain⟨q0,q1,q2,q3,q4,q5,q6⟩:=P4;refine bodyPost_ret (v:=(zk.mk vr vp vn).agg) ?_ rfl ⟨rfl,B4⟩;simp[results,Tryz.results43,go_sem,q0,q1,q2,q3,q4,q5,q6]
theorem ziJ {M:Mm} {L:List Wn} {last:Int} {N:Nat} {s:Rs} {t:Pt} (w:World) (h:zI w M L last N s t):
 Calls Tryz.prog 41 #[.pointer (some ⟨M.t 0,0,none⟩)] w λe w'=>e=.returned (.bool false)/\w'=w:=by
 have c:=h.c0;clear h;go_in;go_wp2;go_ret;exact⟨rfl,rfl⟩
theorem zfD (w:World):
 Calls Tryz.prog 41 #[.pointer none] w λe w'=>e=.returned (.bool true)/\w'=w:=by
 go_in;go_wp2;go_ret;exact⟨rfl,rfl⟩
theorem ztB {M:Mm} {L:List Wn} {last:Int} {N:Nat} {s:Rs} {t:Pt} {rk:Int->Nat} {K:Nat} (T:ZR L rk K) (ok:ZK L last) (w:World) (h:zI w M L last N s t) (r:Wn) (hr:r∈L) (hr0:r.n=0) (x y:Nat) (hx:x<r.W) (hy:y<r.H):
 Calls Tryz.prog 11 #[.pointer (some ⟨M.t 0,0,none⟩),.int .i64 x,.int .i64 y] w λe w'=>e=.returned (.tuple #[(zcx L K r x y).agg,.int .i64 0])/\Below w.heap.size w w':=by
 have HD:=zH h;have HT:=zH T;have Hok:=zH ok;have c0:=h.c0;have c0':∀o,(w.alloc o).cell? ⟨M.t 0,0,none⟩=some (.pointer (some ⟨M.t 1,0,none⟩)):=λo=>by rw[((Below.refl w.heap.size w).alloc (Nat.le_refl _) o).cell (p:=⟨M.t 0,0,none⟩) (h.lt (Zg M L 0 (by omega)))];exact c0
 have hin:inG r.W r.H x y=true:=zu.2 (by omega);clear h T ok;obtain⟨pc,hpc⟩:∃pc,zcx L K r x y=pc:=⟨_,rfl⟩;rw[hpc];have Hpc:=zH hpc.symm;clear hpc;go_in;go_wp2_with (first|(go_at_call 41;refine sM (ziJ _ (HD.out.below ((Below.refl _ _).alloc (Nat.le_refl _) _))) ?_)|(go_at_call 42;refine sM (zrZ _ (HD.out.below ((Below.refl _ _).alloc (Nat.le_refl _) _)) r hr hr0 _ _) ?_));have hb0:Below w.heap.size w (w.alloc (.cells Z7 38)):=(Below.refl _ _).alloc (Nat.le_refl _) _;have C2:zv (w.alloc (.cells Z7 38)) w.heap.size 0 noC:=zaq w noC 38;have F2:=ze (zf w (.cells Z7 38));generalize w.alloc (.cells Z7 38)=wa at *;have HDa:=zH<|HD.out.below hb0
 clear HD c0 c0';have l2:=C2.lt;go_at_call 43;refine(ztA HT.out Hok.out _ HDa.out r hr hr0 x y hx hy pc Hpc.out).mono ?_;rintro e wd ⟨rfl,hbd⟩;have D5:=C2.below hbd l2;have G5:=λo=>(hbd.marks l2 o).trans (F2 o);have B5:=hb0.trans (hbd.mono hb0.size);have P4:=zai (c:=pc) D5;have B4:=((zd.below (λi=>i=w.heap.size) B5).put7 w.heap.size 0 pc (λh=>rfl)).toBelow (Nat.le_refl _) (λi hi=>by omega);obtain⟨q0,q1,q2,q3,q4,q5,q6⟩:=D5;clear C2 F2 hbd hb0 HDa;go_wp2_with fail;change bodyPost _ _ _ _ _ (put7 wd w.heap.size 0 pc);generalize put7 wd w.heap.size 0 pc=w4 at *;clear q0 q1 q2 q3 q4 q5 q6;obtain⟨q0,q1,q2,q3,q4,q5,q6⟩:=P4;refine bodyPost_ret (v:=.tuple #[pc.agg,.int .i64 0]) ?_ rfl ⟨rfl,B4⟩;simp[results,Tryz.results11,go_sem,q0,q1,q2,q3,q4,q5,q6]
end
end Go.Proofs.YtjlfibhbfdckpaaGreatDoor
