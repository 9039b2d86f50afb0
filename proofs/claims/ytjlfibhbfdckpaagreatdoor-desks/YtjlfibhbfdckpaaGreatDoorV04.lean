import Derived.Test.YtjlfibhbfdckpaaGreatDoorV03
import Derived.Deep.AppendLies
import Derived.Deep.RegionLaw
namespace Go.Proofs.YtjlfibhbfdckpaaGreatDoor
set_option maxHeartbeats 64000000
set_option maxRecDepth 100000
section
open Go.RowKit
def flat (L:List zk):List Value:=L.flatMap zk.vals
theorem zgw (L M:List zk):flat (L++M)=flat L++flat M:=by simp[flat]
theorem zki (c:zk):flat [c]=c.vals:=by simp[flat]
theorem zde (L:List zk):(flat L).length=L.length*7:=by
 induction L with
 |nil=>rfl
 |cons c L ih=>simp[flat] at ih ⊢;omega
theorem zju (L:List zk) (i:Nat) (c:zk) (h:L[i]?=some c) (j:Nat) (v:Value) (hv:c.vals[j]?=some v):(flat L)[i*7+j]?=some v:=by
 induction L generalizing i with
 |nil=>simp at h
 |cons d L ih=>
  have e:flat (d::L)=d.vals++flat L:=by simp[flat]
  rw[e];cases i with
  |zero=>
   simp at h;subst h;have hj:j<7:=by
    have:=(List.getElem?_eq_some_iff.1 hv).1;simpa using this
   rw[List.getElem?_append_left (by simpa using hj)];simpa using hv
  |succ i=>
   rw[List.getElem?_append_right (by simp;omega)];have e2:(i+1)*7+j-d.vals.length=i*7+j:=by simp;omega
   rw[e2];exact ih i (by simpa using h)
theorem zjv {w:World} {base g n cap:Nat} {L:List zk} {t:TypeId} (h:w.ownsRow base t 7 (.slice (some ⟨g,0,none⟩) n cap) n (flat L)) (i:Nat) (c:zk) (hi:L[i]?=some c):zv w g (i*7) c:=by
 obtain⟨hl,h|⟨g',cap',cur,hv,hb,hg,hn,hm,hs,ht⟩⟩:=h
 ·simp at h
 ·simp at hv;obtain⟨rfl,rfl⟩:=hv;have key:∀j v,c.vals[j]?=some v->w.cell? ⟨g,i*7+j,none⟩=some v:=by
   intro j v hjv;rw[za hg];have:=zju L i c hi j v hjv;rw[←ht] at this;have hlt:=(List.getElem?_eq_some_iff.1 this).1;rw[List.getElem?_take_of_lt (by simp at hlt;omega)] at this;simpa using this
  exact⟨key 0 _ rfl,key 1 _ rfl,key 2 _ rfl,key 3 _ rfl,key 4 _ rfl,key 5 _ rfl,key 6 _ rfl⟩
theorem zhh {w:World} {base g n cap:Nat} {xs:List Value} {t:TypeId} (h:w.ownsRow base t 7 (.slice (some ⟨g,0,none⟩) n cap) n xs) (o:Nat):w.frozen? ⟨g,o,none⟩=false:=by
 obtain⟨hl,h|⟨g',cap',cur,hv,hb,hg,hn,hm,hs,ht⟩⟩:=h
 ·simp at h
 ·simp at hv;obtain⟨rfl,rfl⟩:=hv;exact ze hg o
theorem zlP {w:World} {base g n cap k:Nat} {xs:List Value} {t:TypeId} (h:w.ownsRow base t 7 (.slice (some ⟨g,0,none⟩) n cap) k xs):base<=g/\g<w.heap.size:=h.lt g rfl
theorem zhi (c:zk):∀u∈c.vals,u.oneCell'=true:=by simp[Value.oneCell']
theorem zaM {w w':World} {base:Nat} {v:Value} {n:Nat} {xs:List Value} {t:TypeId} (h:w.ownsRow base t 7 v n xs) (hb:∀g,v.ownBlock=some g->w'.heap[g]?=w.heap[g]?):w'.ownsRow base t 7 v n xs:=by
 obtain⟨hl,h|⟨g',cap',cur,rfl,hb',hg,rest⟩⟩:=h
 ·exact⟨hl,.inl h⟩
 ·exact⟨hl,.inr ⟨g',cap',cur,rfl,hb',by rw[hb g' rfl];exact hg,rest⟩⟩
theorem zg {w:World} {b:Nat} {C:Array Value} {t:TypeId} {fr:Nat × Nat} (h:w.heap[b]?=some (.cells C t fr)) (o:Nat) (v:Value):(w.setCell ⟨b,o,none⟩ v).heap[b]?=some (.cells (C.setIfInBounds o v) t fr):=by
 unfold World.setCell;simp[Array.getElem?_modify,h]
theorem zd.grown {F:Nat->Prop} {a w w':World} {row:Option Nat} (h:zd F a w) (hg:w.grownBy w' row) (hr:∀k,row=some k->k<a.heap.size->F k):zd F a w' :=
 ⟨hg.os.trans h.os,hg.tape.trans h.tape,hg.output.trans h.output,Nat.le_trans h.size hg.size,λk hk hF=>
  (hg.block k (Nat.lt_of_lt_of_le hk h.size) (λe=>hF (hr k e.symm hk))).trans (h.block k hk hF)⟩
theorem zam {w:World} {base t n k:Nat} {xs:List Value} {v:Value} (h:w.ownsRow base t k v n xs) (hn:1<=n):∃g cap,v=.slice (some ⟨g,0,none⟩) n cap:=by
 obtain⟨_,⟨_,h⟩|⟨g,cap,_,hv,_⟩⟩:=h
 ·omega
 ·exact⟨g,cap,hv⟩
theorem zae (w:World) (o:Obj) (b:Nat) (hb:b=w.heap.size):(w.alloc o).heap[b]?=some o:=by subst hb;exact zf w o
theorem zcq (w:World) (c:zk) (q:Int) (h:c.p=q) (t:TypeId):zv (w.alloc (.cells #[.int .i32 c.r,.int .i64 q,.int .i64 c.n.f,.int .i64 c.n.b,.bool c.n.bo,.bool c.n.un,.bool c.n.re] t)) w.heap.size 0 c:=by
 subst h;exact⟨za (zf w _) 0,za (zf w _) 1,za (zf w _) 2,za (zf w _) 3,za (zf w _) 4,za (zf w _) 5,za (zf w _) 6⟩
theorem znJ:(Tryz.prog.info? 38).bind (·.zero)=some (zk.agg ⟨0,0,Pn.plain⟩):=by kernel_rfl
theorem znK:(Tryz.prog.info? 38).map (·.size)=some 7:=by kernel_rfl
theorem zlQ:(Tryz.prog.info? 38).map (·.bytes)=some 40:=by kernel_rfl
theorem zeS:∃i:TypeInfo,Tryz.prog.info? 38=some i/\i.zero=some (zk.agg ⟨0,0,Pn.plain⟩)/\i.size=7/\i.bytes=40:=by
 have h1:=znJ;have h2:=znK;have h3:=zlQ;cases h:Tryz.prog.info? 38 with
 |none=>rw[h] at h2;simp at h2
 |some i=>rw[h] at h1 h2 h3;exact⟨i,rfl,by simpa using h1,by simpa using h2,by simpa using h3⟩
abbrev zaG (c:zk):Array Value:=#[.int .i32 c.r,.int .i64 c.p,.int .i64 c.n.f,.int .i64 c.n.b,.bool c.n.bo,.bool c.n.un,.bool c.n.re]
theorem zgT {ops:Array Oper} {o:Oper} {a:Act} {K:Act->World->Prop} {Q:Exit->Act->World->Prop} {E:Prop} (w:World) (hgd:o.guard=none) (s x:Operand)
 (ho:o.op=.call {callee:=.builtin .append,args:=#[s,x],argTypes:=#[120,120]}) (base:Nat) (v:Value) (L:List zk) (c:zk) (k:Nat) (hk:L.length=k) (hs:a.eval s=v)
 (hown:w.ownsRow base 38 7 v k (flat L)) (b:Nat) (hx:a.eval x=.slice (some ⟨b,0,none⟩) 1 1) (hb:w.heap[b]?=some (.cells (zaG c) 38)) (hL:k<=1000) (hbase:base<=w.heap.size)
 (h:∀g cap w',w'.ownsRow base 38 7 (.slice (some ⟨g,0,none⟩) (k+1) cap) (k+1) (flat (L ++ [c]))->w.grownBy w' v.ownBlock->(v.ownBlock=some g\/g=w.heap.size)->g<w'.heap.size->K (a.put o.dst (.slice (some ⟨g,0,none⟩) (k+1) cap)) w'):
 if Region.wanted o (yielded ops a.tmps)=true then Oper.wp Tryz.prog o a w K Q else E:=by
 obtain⟨ti,i1,i2,i3,i4⟩:=zeS;refine step_append_lies w hgd s x 120 ho base 38 ti _ 7 40 Tryz.underlying120 i1 i2 i3 i4 rfl (by decide) v k (flat L) hs hown ⟨b,0,none⟩ 1 1 c.vals hx rfl (World.news_of_block hb) (zhi c) (by decide) (by unfold maxLen;omega) (by omega) hbase w.heap.size rfl ?_;intro g cap w' h1 h2 h3 h4;rw[←zki c,←zgw] at h1;exact h g cap w' h1 h2 h3 h4
theorem zao {ops:Array Oper} {rest:List Oper} {o:Oper} {a:Act} {Q:Exit->Act->World->Prop} (w:World) (hgd:o.guard=none) (s x:Operand)
 (ho:o.op=.call {callee:=.builtin .append,args:=#[s,x],argTypes:=#[120,120]}) (base:Nat) (v:Value) (L:List zk) (c:zk) (k:Nat) (hk:L.length=k) (hs:a.eval s=v)
 (hown:w.ownsRow base 38 7 v k (flat L)) (b:Nat) (hx:a.eval x=.slice (some ⟨b,0,none⟩) 1 1) (hb:w.heap[b]?=some (.cells (zaG c) 38)) (hL:k<=1000) (hbase:base<=w.heap.size)
 (h:∀g cap w',w'.ownsRow base 38 7 (.slice (some ⟨g,0,none⟩) (k+1) cap) (k+1) (flat (L ++ [c]))->w.grownBy w' v.ownBlock->(v.ownBlock=some g\/g=w.heap.size)->g<w'.heap.size->wpList Tryz.prog ops Q rest (a.put o.dst (.slice (some ⟨g,0,none⟩) (k+1) cap)) w'):
 wpList Tryz.prog ops Q (o::rest) a w:=by
 obtain⟨ti,i1,i2,i3,i4⟩:=zeS;refine wpList_append_lies w hgd s x 120 ho base 38 ti _ 7 40 Tryz.underlying120 i1 i2 i3 i4 rfl (by decide) v k (flat L) hs hown ⟨b,0,none⟩ 1 1 c.vals hx rfl (World.news_of_block hb) (zhi c) (by decide) (by unfold maxLen;omega) (by omega) hbase w.heap.size rfl ?_;intro g cap w' h1 h2 h3 h4;rw[←zki c,←zgw] at h1;exact h g cap w' h1 h2 h3 h4
end
section
open Go.RowKit
attribute [local go_sem ↓] Go.wp_at_zero Go.wp_at_succ
theorem zg3 (W H:Nat) (w:World) (w1:1<=W) (w2:W<=40) (h1:1<=H) (h2:H<=20):
 Calls Tryz.prog 74 #[.int .i64 W,.int .i64 H] w λe w'=>∃bc g cap,e=.returned (.pointer (some ⟨bc,0,none⟩))/\w.heap.size<=bc/\w.heap.size<=g/\Zp w' bc g cap W H (H*W) (λ_ _=>blk Pn.plain)/\Below w.heap.size w w':=by
 obtain⟨ti,i1,i2,i3,i4⟩:=zeS;obtain⟨N,hN⟩:∃N,H*W=N:=⟨_,rfl⟩;have hNle:N<=800:=by rw[←hN];exact Nat.mul_le_mul h2 w2
 have hv1:IntKind.i64.wrap ((W:Int)*(H:Int))=(N:Int):=by rw[←Int.natCast_mul,Nat.mul_comm,hN];exact zm _ (by omega) (by omega)
 have hv2:(W:Int)*(H:Int)=(N:Int):=by rw[←Int.natCast_mul,Nat.mul_comm,hN]
 have HN:=zH hN;clear hN;go_in;go_wp2_with fail;go_loopw[6] (λi w'=>∃(k:Nat) (v:Value),k<=N/\i=.int .i64 k/\w'.heap[w.heap.size]?=some (.cells #[.int .i64 W,.int .i64 H,v] 122)/\w'.ownsRow (w.heap.size+1) 38 7 v k (flat (List.replicate k (blk Pn.plain)))/\Below w.heap.size w w') (λi _=>N-(intOf i).toNat)
 case atStart=>exact⟨0,_,by omega,rfl,zf _ _,World.ownsRow_nil _ _ _ _,(Below.refl _ _).alloc (Nat.le_refl _) _⟩
 case round=>
  obtain⟨k,v,hk,rfl,hb,hrow,hB⟩:=hrel;by_cases hlt:k<N
  ·have c2:wr.cell? ⟨w.heap.size,2,none⟩=some v:=by rw[za hb];rfl
   have fr:=ze hb;have hlt':(k:Int)<(N:Int):=by omega
   have hbl:w.heap.size<wr.heap.size:=World.block_lt_of_cell? _ _ c2;have Hrow:=zH hrow;have Hb:=zH hb;clear hrow hb;go_wp2_with fail;go_region_law (first|(go_simp;go_at_call 95;refine(zaj Pn.plain _).mono ?_;rintro e w5 ⟨rfl,hb5⟩;have hb6:=zL hb5;have e1:=hb6.cells hbl;have e2:=hb6.marks hbl;have Hr6:=zH<|zaM Hrow.out (λg hg=>hb6.block _ (Hrow.out.lt g hg).2);have s6:=hb6.size;have l6:=Nat.lt_of_lt_of_le hbl s6;clear hb5)|(refine zgT _ (by rfl) (.tmp 22) (.tmp 25) (by rfl) (w.heap.size+1) v (List.replicate k (blk Pn.plain)) (blk Pn.plain) k (by simp) (by simp[Act.eval]) (zaM Hr6.out (λg hg=>Below.heap_alloc _ _ _ (Hr6.out.lt g hg).2)) w5.heap.size (by simp[Act.eval]) (zf w5 _) (by omega) (by simp;omega) ?_;intro g7 cap7 w7 hr7 hg7 ho7 hl7;have hbk:=(hg7.block _ (by simp;omega) (λe=>by have:=(Hr6.out.lt _ e.symm).1;omega)).trans ((Below.heap_alloc _ _ _ (by omega)).trans ((hb6.block _ hbl).trans Hb.out));have c7:w7.cell? ⟨w.heap.size,2,none⟩=some v:=(za hbk 2);have f7:=ze hbk 2));all_goals
    have hB7:Below w.heap.size w (w7.setCell ⟨w.heap.size,2,none⟩ (.slice (some ⟨g7,0,none⟩) (k+1) cap7)):=
     (((hB.trans (hb6.mono (Nat.le_of_lt hbl))).alloc (Nat.le_of_lt l6) _).grown hg7 (by simp;omega) (λi hi=>by have:=(Hr6.out.lt i hi).1;omega)).setCell (Nat.le_refl _) _
    have hr8:(w7.setCell ⟨w.heap.size,2,none⟩ (.slice (some ⟨g7,0,none⟩) (k+1) cap7)).ownsRow (w.heap.size+1) 38 7 (.slice (some ⟨g7,0,none⟩) (k+1) cap7) (k+1) (flat (List.replicate (k+1) (blk Pn.plain))):=by
     rw[List.replicate_succ'];refine zaM hr7 (λi hi=>Below.heap_setCell _ _ _ _ ?_);have:=(hr7.lt i hi).1;show i≠w.heap.size;omega
    have hb8:=zg hbk 2 (.slice (some ⟨g7,0,none⟩) (k+1) cap7);generalize hW8:w7.setCell ⟨w.heap.size,2,none⟩ (.slice (some ⟨g7,0,none⟩) (k+1) cap7)=w8 at *;clear hr7 hg7 ho7 hl7 c7 f7 hbk hW8 Hr6 e1 e2 hb6;go_wp2_with fail;go_roundw
    case rel=>exact⟨k+1,_,by omega,by go_num,hb8,hr8,hB7⟩
    case measure=>simp[intOf];omega
  ·obtain rfl:k=N:=by omega
   obtain⟨g,cap,rfl⟩:=zam hrow (by rw[←HN.out];exact Nat.mul_pos h1 w1);have hg:=zlP hrow;have hC:Zp wr w.heap.size g cap W H k (λ_ _=>blk Pn.plain):=
    ⟨hb,⟨λx y hx hy=>zjv hrow _ _ (List.getElem?_replicate_of_lt (by rw[←HN.out];exact zas hx hy)),zhh hrow⟩,HN.out.symm,by omega,w1,w2,h1,h2⟩
   have HC:=zH hC;clear hC hb hrow;go_wp2_with fail;go_ret;exact⟨w.heap.size,g,cap,rfl,Nat.le_refl _,by omega,by rw[HN.out];exact HC.out,hB⟩
end
section
open Wd (wd)
def zo (top bot n:Int) (p:Pn) (G:Nat->Nat->zk):Nat->Nat->zk:=λx y=>
 if top<=y/\(y:Int)<=bot then(if top<=y+n/\(y:Int)+n<=bot then G x (y+n).toNat else blk p) else G x y
def Zl (W:Nat) (G:Nat->Nat->zk) (m:Nat):List zk:=(List.range m).map λi=>G (i%W) (i/W)
theorem zax (W:Nat) (G:Nat->Nat->zk) (m:Nat):(Zl W G m).length=m:=by simp[Zl]
theorem za7 (W:Nat) (G:Nat->Nat->zk) (x y:Nat) (hx:x<W):Zl W G (y*W+(x+1))=Zl W G (y*W+x) ++ [G x y]:=by
 unfold Zl;rw[←Nat.add_assoc,List.range_succ,List.map_append];have a:(y*W+x)%W=x:=by rw[Nat.mul_comm,Nat.mul_add_mod];exact Nat.mod_eq_of_lt hx
 have b:(y*W+x)/W=y:=by rw[Nat.mul_comm,Nat.mul_add_div (by omega)];simp[Nat.div_eq_of_lt hx]
 simp[a,b]
theorem zlR (W:Nat) (G:Nat->Nat->zk) (m x y:Nat) (hx:x<W) (h:y*W+x<m):(Zl W G m)[y*W+x]?=some (G x y):=by
 have a:(y*W+x)%W=x:=by rw[Nat.mul_comm,Nat.mul_add_mod];exact Nat.mod_eq_of_lt hx
 have b:(y*W+x)/W=y:=by rw[Nat.mul_comm,Nat.mul_add_div (by omega)];simp[Nat.div_eq_of_lt hx]
 simp[Zl,List.getElem?_map,List.getElem?_range h,a,b]
theorem zkj {w:World} {base bc g cap W H N:Nat} {G:Nat->Nat->zk} (hb:w.heap[bc]?=some (.cells #[.int .i64 W,.int .i64 H,.slice (some ⟨g,0,none⟩) N cap] 122))
 (hr:w.ownsRow base 38 7 (.slice (some ⟨g,0,none⟩) N cap) N (flat (Zl W G N))) (hN:N=H*W) (ne:bc≠g) (w1:1<=W) (w2:W<=40) (h1:1<=H) (h2:H<=20):Zp w bc g cap W H N G:=
 ⟨hb,⟨λx y hx hy=>zjv hr _ _ (zlR W G N x y hx (by rw[hN];exact zas hx hy)),zhh hr⟩,hN,ne,w1,w2,h1,h2⟩
theorem Wf.scroll {W H:Nat} {G:Nat->Nat->zk} (h:Wf W H G) (top bot n:Int) (p:Pn) (ht:0<=top) (hb:bot<H):Wf W H (zo top bot n p G):=by
 have key:∀x y,x<W->y<H->(∃y',y'<H/\(∀x',zo top bot n p G x' y=G x' y'))\/(∀x',zo top bot n p G x' y=Go.Proofs.YtjlfibhbfdckpaaGreatDoor.blk p):=by
  intro x y hx hy;unfold zo;by_cases h1:top<=y/\(y:Int)<=bot
  ·by_cases h2:top<=y+n/\(y:Int)+n<=bot
   ·left;exact⟨((y:Int)+n).toNat,by omega,λx'=>by rw[if_pos h1,if_pos h2]⟩
   ·right;intro x';rw[if_pos h1,if_neg h2]
  ·left;exact⟨y,hy,λx'=>by rw[if_neg h1]⟩
 refine⟨λx y hx hy=>?_,λx y hx hy hp=>?_,λx y hx hy hp=>?_⟩
 ·rcases key x y hx hy with⟨y',hy',e⟩|e
  ·rw[e];exact h.part x y' hx hy'
  ·rw[e];exact .inl ⟨rfl,ze6⟩
 ·rcases key x y hx hy with⟨y',hy',e⟩|e
  ·rw[e] at hp;rw[e,e];exact h.head x y' hx hy' hp
  ·rw[e] at hp;simp[Go.Proofs.YtjlfibhbfdckpaaGreatDoor.blk] at hp
 ·rcases key x y hx hy with⟨y',hy',e⟩|e
  ·rw[e] at hp;rw[e,e];exact h.tail x y' hx hy' hp
  ·rw[e] at hp;simp[Go.Proofs.YtjlfibhbfdckpaaGreatDoor.blk] at hp
structure Aw (W H:Nat) (G:Nat->Nat->zk):Prop where
 head:∀x y,x+1<W->y<H->(G x y).p=1->(G (x+1) y).p=2
 tail:∀x y,x<W->y<H->(G x y).p=2->1<=x/\(G (x-1) y).p=1
def bk (W:Nat) (G:Nat->Nat->zk) (m:Nat):Nat->Nat->zk:=λa b=>if b*W+a<m/\a+1=W/\(G a b).p=1 then blk (G a b).n else G a b
theorem zvn (W:Nat) (G:Nat->Nat->zk) (x y:Nat):bk W G (y*W+x) x y=G x y:=by
 unfold bk;exact if_neg (by omega)
theorem zpt (W:Nat) (G:Nat->Nat->zk) (x y:Nat):bk W G (y*W+x) (x+1) y=G (x+1) y:=by
 unfold bk;exact if_neg (by omega)
theorem zrN (W:Nat) (G:Nat->Nat->zk) (x y:Nat) (hx:x<W) (_h1:1<=x):bk W G (y*W+x) (x-1) y=G (x-1) y:=by
 unfold bk;exact if_neg (by omega)
theorem zrO (W H:Nat) (G:Nat->Nat->zk) (x y:Nat) (hx:x<W) (h:¬(x+1=W/\(G x y).p=1)):ZX W H (bk W G (y*W+x)) (bk W G (y*W+x+1)):=by
 intro a b ha _;unfold bk;by_cases e:b*W+a=y*W+x
 ·obtain⟨rfl,rfl⟩:=zcb ha hx e;rw[if_neg (by omega),if_neg (by omega)]
 ·by_cases c:b*W+a<y*W+x/\a+1=W/\(G a b).p=1
  ·rw[if_pos c,if_pos ⟨by omega,c.2⟩]
  ·rw[if_neg c,if_neg (λq=>c ⟨by omega,q.2⟩)]
theorem ztS (W H:Nat) (G:Nat->Nat->zk) (x y:Nat) (hx:x<W) (h:x+1=W/\(G x y).p=1):ZX W H (upd (bk W G (y*W+x)) x y (blk (G x y).n)) (bk W G (y*W+x+1)):=by
 intro a b ha _;unfold bk upd;by_cases e:a=x/\b=y
 ·obtain⟨rfl,rfl⟩:=e;rw[if_pos ⟨rfl,rfl⟩,if_pos ⟨by omega,h⟩]
 ·have e':b*W+a≠y*W+x:=λq=>e (zcb ha hx q);rw[if_neg e];show(if b*W+a<y*W+x/\a+1=W/\(G a b).p=1 then blk (G a b).n else G a b)=_;by_cases c:b*W+a<y*W+x/\a+1=W/\(G a b).p=1
  ·rw[if_pos c,if_pos ⟨by omega,c.2⟩]
  ·rw[if_neg c,if_neg (λq=>c ⟨by omega,q.2⟩)]
def zfA (W:Nat) (G:Nat->Nat->zk):Nat->Nat->zk:=λa b=>if a+1=W/\(G a b).p=1 then blk (G a b).n else G a b
theorem ztT (W H:Nat) (G:Nat->Nat->zk):ZX W H (bk W G (H*W)) (zfA W G):=by
 intro a b ha hb;unfold bk zfA;have:=zas ha hb;by_cases c:a+1=W/\(G a b).p=1
 ·rw[if_pos ⟨this,c⟩,if_pos c]
 ·rw[if_neg (λq=>c q.2),if_neg c]
def ZJ (W H W':Nat) (G:Nat->Nat->zk):Nat->Nat->zk:=zfA W' (λa b=>if a<W/\b<H then G a b else blk Pn.plain)
theorem zkk {W H W' H':Nat} {G:Nat->Nat->zk} (h:Wf W H G):Aw W' H' (λa b=>if a<W/\b<H then G a b else blk Pn.plain):=by
 refine⟨λx y hx hy hp=>?_,λx y hx hy hp=>?_⟩
 ·by_cases c:x<W/\y<H
  ·rw[if_pos c] at hp;obtain⟨a,b⟩:=h.head x y c.1 c.2 hp;show(if x+1<W/\y<H then G (x+1) y else blk Pn.plain).p=2;rw[if_pos ⟨a,c.2⟩,b]
  ·rw[if_neg c] at hp;simp[blk] at hp
 ·by_cases c:x<W/\y<H
  ·rw[if_pos c] at hp;obtain⟨a,b⟩:=h.tail x y c.1 c.2 hp;refine⟨a,?_⟩;show(if x-1<W/\y<H then G (x-1) y else blk Pn.plain).p=1;rw[if_pos ⟨by omega,c.2⟩,b]
  ·rw[if_neg c] at hp;simp[blk] at hp
theorem Wf.sized {W H W' H':Nat} {G:Nat->Nat->zk} (h:Wf W H G):Wf W' H' (ZJ W H W' G):=by
 unfold ZJ zfA;refine⟨λx y hx hy=>?_,λx y hx hy hp=>?_,λx y hx hy hp=>?_⟩
 ·by_cases c:x<W/\y<H
  ·simp only[if_pos c];split
   ·exact .inl ⟨rfl,ze6⟩
   ·exact h.part x y c.1 c.2
  ·simp only[if_neg c];split<;>exact .inl ⟨rfl,ze6⟩
 ·by_cases c:x<W/\y<H
  ·simp only[if_pos c] at hp ⊢;by_cases q:x+1=W'/\(G x y).p=1
   ·rw[if_pos q] at hp;simp[Go.Proofs.YtjlfibhbfdckpaaGreatDoor.blk] at hp
   ·rw[if_neg q] at hp ⊢;obtain⟨a,b⟩:=h.head x y c.1 c.2 hp;refine⟨by omega,?_⟩;simp only[if_pos (show x+1<W/\y<H from⟨a,c.2⟩),b];simp
  ·simp only[if_neg c] at hp;simp[Go.Proofs.YtjlfibhbfdckpaaGreatDoor.blk] at hp
 ·by_cases c:x<W/\y<H
  ·simp only[if_pos c] at hp ⊢;by_cases q:x+1=W'/\(G x y).p=1
   ·rw[if_pos q] at hp;simp[Go.Proofs.YtjlfibhbfdckpaaGreatDoor.blk] at hp
   ·rw[if_neg q] at hp ⊢;obtain⟨a,b⟩:=h.tail x y c.1 c.2 hp;refine⟨a,?_⟩;simp only[if_pos (show x-1<W/\y<H from⟨by omega,c.2⟩),b];have:¬(x-1+1=W'):=by omega
    simp[this]
  ·simp only[if_neg c] at hp;simp[Go.Proofs.YtjlfibhbfdckpaaGreatDoor.blk] at hp
theorem zep (W H:Nat):Wf W H (λ_ _=>blk Pn.plain):=
 ⟨λ_ _ _ _=>.inl ⟨rfl,ze6⟩,λ_ _ _ _ h=>by simp[blk] at h,λ_ _ _ _ h=>by simp[blk] at h⟩
end
section
def cp (W H:Nat) (G:Nat->Nat->zk) (x y:Nat):Nat->Nat->zk:=λa b=>if (b<y\/(b=y/\a<x))/\a<W/\b<H then G a b else blk Pn.plain
theorem zpu (W H:Nat) (G:Nat->Nat->zk):cp W H G 0 0=λ_ _=>blk Pn.plain:=by
 funext a b;unfold cp;exact if_neg (by omega)
theorem ztU (W H W' H':Nat) (G:Nat->Nat->zk) (x y:Nat) (hx:x<W) (hy:y<H):ZX W' H' (upd (cp W H G x y) x y (G x y)) (cp W H G (x+1) y):=by
 intro a b _ _;unfold cp upd;by_cases e:a=x/\b=y
 ·obtain⟨rfl,rfl⟩:=e;rw[if_pos ⟨rfl,rfl⟩,if_pos (by omega)]
 ·rw[if_neg e];show(if (b<y\/(b=y/\a<x))/\a<W/\b<H then G a b else blk Pn.plain)=_;by_cases c:(b<y\/(b=y/\a<x))/\a<W/\b<H
  ·rw[if_pos c,if_pos (by omega)]
  ·rw[if_neg c,if_neg (by omega)]
theorem zm8 (W H W' H':Nat) (G:Nat->Nat->zk) (x y:Nat) (h:W<=x\/W'<=x):ZX W' H' (cp W H G x y) (cp W H G 0 (y+1)):=by
 intro a b ha _;unfold cp;by_cases c:(b<y\/(b=y/\a<x))/\a<W/\b<H
 ·rw[if_pos c,if_pos (by omega)]
 ·rw[if_neg c,if_neg (by omega)]
theorem zpv (W H W' H':Nat) (G:Nat->Nat->zk) (y:Nat) (h:H<=y\/H'<=y):ZX W' H' (cp W H G 0 y) (λa b=>if a<W/\b<H then G a b else blk Pn.plain):=by
 intro a b _ hb;unfold cp;show _=if a<W/\b<H then G a b else blk Pn.plain;by_cases c:a<W/\b<H
 ·rw[if_pos (by omega),if_pos c]
 ·rw[if_neg (by omega),if_neg c]
end
end Go.Proofs.YtjlfibhbfdckpaaGreatDoor
