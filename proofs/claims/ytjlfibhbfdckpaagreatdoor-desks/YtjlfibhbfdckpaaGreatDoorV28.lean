import Derived.Test.YtjlfibhbfdckpaaGreatDoorV27
namespace Go.Proofs.YtjlfibhbfdckpaaGreatDoor
set_option maxHeartbeats 64000000
set_option maxRecDepth 100000
section
open Go.RowKit
attribute [local go_sem ↓] Go.wp_at_zero Go.wp_at_succ
theorem zmk:(Tryz.prog.info? 107).bind (·.zero)=some (.agg #[.int .i64 0,.int .i64 0,.int .i64 0,.int .i64 0,.bool false,.pointer none]):=by kernel_rfl
theorem zml:(Tryz.prog.info? 107).map (·.size)=some 6:=by kernel_rfl
theorem zkM:(Tryz.prog.info? 107).map (·.bytes)=some 48:=by kernel_rfl
theorem ztJ:∃i:TypeInfo,Tryz.prog.info? 107=some i/\i.zero=some (.agg #[.int .i64 0,.int .i64 0,.int .i64 0,.int .i64 0,.bool false,.pointer none])/\i.size=6/\i.bytes=48:=by
 have h1:=zmk;have h2:=zml;have h3:=zkM;cases h:Tryz.prog.info? 107 with
 |none=>rw[h] at h2;simp at h2
 |some i=>rw[h] at h1 h2 h3;exact⟨i,rfl,by simpa using h1,by simpa using h2,by simpa using h3⟩
abbrev zdF (v:Wn) (c:Nat):Array Value:=#[.int .i64 v.n,.int .i64 v.par,.int .i64 v.x,.int .i64 v.y,.bool v.sh,.pointer (some ⟨c,0,none⟩)]
theorem zar {ops:Array Oper} {rest:List Oper} {o:Oper} {a:Act} {Q:Exit->Act->World->Prop} (w:World) (hgd:o.guard=none) (s x:Operand)
 (ho:o.op=.call {callee:=.builtin .append,args:=#[s,x],argTypes:=#[108,108]}) (base:Nat) (v:Value) (c:Int->Nat) (L:List Wn) (u:Wn) (k:Nat) (hk:L.length=k) (hs:a.eval s=v)
 (hown:w.ownsRow base 107 6 v k (ZE c L)) (b:Nat) (hx:a.eval x=.slice (some ⟨b,0,none⟩) 1 1) (hb:w.heap[b]?=some (.cells (zdF u (c u.n)) 107)) (hL:k<=1000) (hbase:base<=w.heap.size)
 (h:∀g cap w',w'.ownsRow base 107 6 (.slice (some ⟨g,0,none⟩) (k+1) cap) (k+1) (ZE c (L ++ [u]))->w.grownBy w' v.ownBlock->(v.ownBlock=some g\/g=w.heap.size)->g<w'.heap.size->wpList Tryz.prog ops Q rest (a.put o.dst (.slice (some ⟨g,0,none⟩) (k+1) cap)) w'):
 wpList Tryz.prog ops Q (o::rest) a w:=by
 obtain⟨ti,i1,i2,i3,i4⟩:=ztJ;refine wpList_append_lies w hgd s x 108 ho base 107 ti _ 6 48 Tryz.underlying108 i1 i2 i3 i4 rfl (by decide) v k (ZE c L) hs hown ⟨b,0,none⟩ 1 1 (zbC c u) hx rfl (World.news_of_block hb) (by simp[zbC,Value.oneCell']) (by decide) (by unfold maxLen;omega) (by omega) hbase w.heap.size rfl ?_;intro g cap w' h1 h2 h3 h4;rw[←ziT c,←zfG] at h1;exact h g cap w' h1 h2 h3 h4
theorem zgV {ops:Array Oper} {o:Oper} {a:Act} {K:Act->World->Prop} {Q:Exit->Act->World->Prop} {E:Prop} (w:World) (hgd:o.guard=none) (s x:Operand)
 (ho:o.op=.call {callee:=.builtin .append,args:=#[s,x],argTypes:=#[108,108]}) (base:Nat) (v:Value) (c:Int->Nat) (L:List Wn) (u:Wn) (k:Nat) (hk:L.length=k) (hs:a.eval s=v)
 (hown:w.ownsRow base 107 6 v k (ZE c L)) (b:Nat) (hx:a.eval x=.slice (some ⟨b,0,none⟩) 1 1) (hb:w.heap[b]?=some (.cells (zdF u (c u.n)) 107)) (hL:k<=1000) (hbase:base<=w.heap.size)
 (h:∀g cap w',w'.ownsRow base 107 6 (.slice (some ⟨g,0,none⟩) (k+1) cap) (k+1) (ZE c (L ++ [u]))->w.grownBy w' v.ownBlock->(v.ownBlock=some g\/g=w.heap.size)->g<w'.heap.size->K (a.put o.dst (.slice (some ⟨g,0,none⟩) (k+1) cap)) w'):
 if Region.wanted o (yielded ops a.tmps)=true then Oper.wp Tryz.prog o a w K Q else E:=by
 obtain⟨ti,i1,i2,i3,i4⟩:=ztJ;refine step_append_lies w hgd s x 108 ho base 107 ti _ 6 48 Tryz.underlying108 i1 i2 i3 i4 rfl (by decide) v k (ZE c L) hs hown ⟨b,0,none⟩ 1 1 (zbC c u) hx rfl (World.news_of_block hb) (by simp[zbC,Value.oneCell']) (by decide) (by unfold maxLen;omega) (by omega) hbase w.heap.size rfl ?_;intro g cap w' h1 h2 h3 h4;rw[←ziT c,←zfG] at h1;exact h g cap w' h1 h2 h3 h4
theorem zd3 {w:World} {base base':Nat} {e:TypeId} {size:Nat} {v:Value} {n:Nat} {xs:List Value} (h:w.ownsRow base e size v n xs) (hb:base'<=base):w.ownsRow base' e size v n xs:=by
 refine⟨h.1,?_⟩;rcases h.2 with h0|⟨g,cap,cur,h1,h2,h3⟩
 ·exact .inl h0
 ·exact .inr ⟨g,cap,cur,h1,Nat.le_trans hb h2,h3⟩
theorem Zb {w:World} {b o:Nat} {v:Value} (h:w.cell? ⟨b,o,none⟩=some v) (q:Obj):(w.alloc q).cell? ⟨b,o,none⟩=some v:=
 (((Below.refl w.heap.size w).alloc (Nat.le_refl _) q).cell (p:=⟨b,o,none⟩) (World.block_lt_of_cell? _ _ h)).trans h
section
variable {R:Rm} {L:List Wn} {last:Int}
theorem Zq.relist {w w':World} (h:Zq w R L last) (L':List Wn) (l':Value) (hg:∀i,l'.ownBlock=some i->w.heap.size<=i)
 (hsub:∀u∈L',∃u0∈L,u0.n=u.n/\u0.W=u.W/\u0.H=u.H/\u0.G=u.G)
 (hd:w'.heap[R.d]?=some (.cells #[l',.int .i64 last] 110)) (hr:w'.ownsRow 2 107 6 l' L'.length (ZE R.c L')) (hk:zd (λi=>i=R.d) w w') (r:Value):Zr R L L' last w r (.returned r) w':=by
 have hB:=h.two _ (zbp R L);have hlt:=h.lt (zbp R L);have hold:∀p:Pl,p.okR L'->p≠.top 1->p.okR L/\({R with l:=l'}:Rm).blk p=R.blk p:=by
  intro p hp hne;cases p with
  |top k=>
   have hk2:k<2:=hp;match k,hk2 with
   |0,_=>exact⟨hp,rfl⟩
   |1,_=>exact absurd rfl hne
  |win n k=>
   obtain⟨hk2,u,hu,e⟩:=hp;obtain⟨u0,h0,e0,_⟩:=hsub u hu;refine⟨⟨hk2,u0,h0,e0.trans e⟩,?_⟩;match k,hk2 with
   |0,_=>rfl
   |1,_=>rfl
 have hown:∀i,({R with l:=l'}:Rm).own L' i->R.own L i\/w.heap.size<=i:=λi ⟨p,hp,e⟩=>by
  by_cases e1:p=.top 1
  ·subst e1;exact .inr (hg i e)
  ·obtain⟨a,b⟩:=hold p hp e1;exact .inl ⟨p,a,by rw[←b];exact e⟩
 refine⟨{R with l:=l'},rfl,⟨hd,hr,?_,?_,?_,?_⟩,rfl,hk.mono (λi e=>e ▸ zbp R L),hown⟩
 ·intro u hu;obtain⟨u0,h0,e1,e2,e3,e4⟩:=hsub u hu;have hw:=h.win u0 h0;rw[e1,e2,e3,e4] at hw;have n1:R.c u.n≠R.d:=by rw[←e1];exact h.ne (p:=.win u0.n 0) (q:=.top 0) ⟨by omega,u0,h0,rfl⟩ (show 0<2 by omega) rfl rfl (by simp)
  have n2:R.g u.n≠R.d:=by rw[←e1];exact h.ne (p:=.win u0.n 1) (q:=.top 0) ⟨by omega,u0,h0,rfl⟩ (show 0<2 by omega) rfl rfl (by simp)
  exact hw.same (hk.block _ (by rw[←e1];exact h.lt (zmc R h0)) n1) (hk.block _ (by rw[←e1];exact h.lt (zfm R h0)) n2)
 ·intro u hu;obtain⟨u0,h0,e1,e2,e3,e4⟩:=hsub u hu;have:=h.wf u0 h0;rw[e2,e3,e4] at this;exact this
 ·intro p q i hp hq e1 e2;by_cases c1:p=.top 1
  ·by_cases c2:q=.top 1
   ·rw[c1,c2]
   ·subst c1;obtain⟨a,b⟩:=hold q hq c2;rw[b] at e2;have h1:=h.lt ⟨q,a,e2⟩;have h2:=hg i e1;omega
  ·by_cases c2:q=.top 1
   ·subst c2;obtain⟨a,b⟩:=hold p hp c1;rw[b] at e1;have h1:=h.lt ⟨p,a,e1⟩;have h2:=hg i e2;omega
   ·obtain⟨a,b⟩:=hold p hp c1;obtain⟨a',b'⟩:=hold q hq c2;rw[b] at e1;rw[b'] at e2;exact h.inj p q i a a' e1 e2
 ·intro i hi;rcases hown i hi with e|e
  ·exact h.two i e
  ·omega
theorem zvG (h1:1<=L.length) (h16:L.length<=16) (w:World) (h:Zq w R L last) (v:Wn) (j:Nat) (hj:L[j]?=some v) (hne:∀i u,i<j->L[i]?=some u->u.n≠v.n):
 Calls Tryz.prog 79 #[.pointer (some ⟨R.d,0,none⟩),.int .i64 v.n] w λe w'=>e=.returned (.int .i64 j)/\w'=w:=by
 have hl:=(List.getElem?_eq_some_iff.1 hj).1;have:=zuf h h1 h16 v.n j (by omega) hne (λu hu=>by rw[hj] at hu;injection hu with e;rw[e]);rw[if_pos hl] at this;exact this
theorem zkN (h1:1<=L.length) (h16:L.length<=16) (w:World) (h:Zq w R L last) (v:Wn) (j:Nat) (hj:L[j]?=some v) (hne:∀i u,i<j->L[i]?=some u->u.n≠v.n) (hj0:j≠0):
 Calls Tryz.prog 143 #[.pointer (some ⟨R.d,0,none⟩),.int .i64 v.n] w λe w'=>e=.returned (.tuple #[.int .i64 j,.int .i64 0])/\w'=w:=by
 have H:=zH<|zvG h1 h16 w h v j hj hne
 have h1:¬(j:Int)<0:=by omega
 have h2:¬(j:Int)=0:=by omega
 clear h hj hne;go_in;go_wp2_with (first|(go_at_call 79;refine sM H.out ?_));go_ret2;exact⟨rfl,rfl⟩
theorem zqf (nd:(L.map Wn.n).Nodup) {o:Int} {u:Wn} (hu:u∈L) (hne:u.n≠o):Sub L o u.n↔Sub L o u.par:=by
 constructor
 ·intro h;rcases h.last with e|⟨v,hv,e,hs⟩
  ·exact absurd e hne
  ·obtain rfl:=zak nd hv hu e;exact hs
 ·exact λh=>.step hu h
def rkM (rk:Int->Nat) (v:Value):Nat:=if intOf v<0 then 0 else rk (intOf v)+1
theorem zhB (ok:ZK L last) (w:World) (h:Zq w R L last) (v:Wn) (hv:v∈L) (o:Int) (ho:0<=o):
 Calls Tryz.prog 144 #[.pointer (some ⟨R.d,0,none⟩),.int .i64 v.n,.int .i64 o] w λe w'=>∃b:Bool,e=.returned (.bool b)/\(b=true↔Sub L o v.n)/\Below w.heap.size w w':=by
 obtain⟨rk,K,T⟩:=ok.tree;have HT:=zH T;have HR:=zH h;obtain⟨g,cap,hl,_,hfz,_⟩:=h.sl ok.one;have Hl:=zH hl;have h16:=zH ok.len;clear h hl T;go_in;go_wp2_with fail;go_loopw[1] (λi w'=>∃(m:Int),i=.int .i64 m/\Below w.heap.size w w'/\((m = -1/\¬Sub L o v.n)\/((∃u∈L,u.n=m)/\(Sub L o v.n↔Sub L o m)))) (λi _=>rkM rk i)
 case atStart=>exact⟨v.n,rfl,Below.refl _ _,.inr ⟨⟨v,hv,rfl⟩,Iff.rfl⟩⟩
 case round=>
  obtain⟨m,rfl,hB,⟨rfl,hno⟩|⟨⟨u,hu,rfl⟩,hiff⟩⟩:=hrel
  ·go_wp2_with fail;go_ret;exact⟨false,rfl,by simp[hno],hB⟩
  ·have h0:=HT.out.pos hu;have Hiff:=zH hiff;clear hiff;by_cases he:u.n=o
   ·subst he;go_wp2_with fail;go_ret;exact⟨true,rfl,by rw[Hiff.out];exact⟨λ_=>.refl,λ_=>rfl⟩,hB⟩
   ·obtain⟨j,hj,hne,_⟩:=zfk HT.out.nd hu;have hRr:=HR.out.below hB;obtain⟨g',cap',hl',hw',_,_⟩:=hRr.sl ok.one;obtain⟨rfl,rfl⟩:g=g'/\cap=cap':=by have:=Hl.out.symm.trans hl';simpa using this
    have d0:=hRr.d0;rw[hl'] at d0;obtain⟨c0,c1,c2,c3,c4,c5⟩:=hw' j u hj;have hjl:=(List.getElem?_eq_some_iff.1 hj).1;have hjl':(j:Int)<(L.length:Int):=by omega
    have H:Hid (Calls Tryz.prog 79 #[.pointer (some ⟨R.d,0,none⟩),.int .i64 u.n] wr.drew λe w'=>e=.returned (.int .i64 j)/\w'=wr.drew):=zbq ok _ (hRr.drewN 1) u j hj hne;have Hup:=zH<|zqf HT.out.nd hu he
    clear hj hne hRr hw' hl';have hBd:Below w.heap.size w wr.drew:=hB.trans ((Zc wr 1).mono hB.size);have HF:Hid (∃m:Int,Value.int .i64 u.par=.int .i64 m/\Below w.heap.size w wr.drew/\((m = -1/\¬Sub L o v.n)\/((∃u∈L,u.n=m)/\(Sub L o v.n↔Sub L o m)))):=by
     refine⟨u.par,rfl,hBd,?_⟩;rcases HT.out.parNot hu with e|e
     ·refine .inl ⟨e,λhs=>?_⟩;have:=Hup.out.1 (Hiff.out.1 hs);rw[e] at this;have:=(Sub.rank HT.out ho this).2;omega
     ·exact .inr ⟨(HT.out.up u hu e).1,Hiff.out.trans Hup.out⟩
    have Hm:Hid (rkM rk (.int .i64 u.par)<rkM rk (.int .i64 u.n)):=by
     show(if u.par<0 then 0 else rk u.par+1)<(if u.n<0 then 0 else rk u.n+1);rw[if_neg (by omega:¬u.n<0)];rcases HT.out.parNot hu with e|e
     ·rw[if_pos (by omega)];omega
     ·rw[if_neg (by omega)];have:=(HT.out.up u hu e).2;omega
    clear hB hBd;go_wp2_with fail;go_region_with (first|(go_at_call 79;refine H.out.mono ?_;rintro e w' ⟨rfl,hw'⟩;subst hw'));all_goals
     go_simp
     refine⟨?_,Hm.out⟩
     (repeat apply Exists.intro)
     exact⟨HF.out,rfl⟩
end
section
variable {R:Rm} {L:List Wn} {last:Int}
theorem zmm (ok:ZK L last) (w:World) (h:Zq w R L last) (n x y W H:Int) (he:zdj L n x y W H≠0):
 Calls Tryz.prog 96 #[.pointer (some ⟨R.d,0,none⟩),.int .i64 n,.int .i64 x,.int .i64 y,.int .i64 W,.int .i64 H] w λe w'=>e=.returned (.tuple #[.int .i64 0,.int .i64 (zdj L n x y W H)])/\w'=w:=by
 have d0:=h.d0;obtain⟨g,cap,hl,hw,hfz,_⟩:=h.sl ok.one;rw[hl] at d0;clear hw hl hfz;unfold zdj at he ⊢;cases hn:zch L n with
 |false=>
  rw[if_pos rfl];have H1:=zH<|zez ok w h n hn
  clear h he hn;go_in;go_wp2_with (first|(go_at_call 79;refine sM H1.out ?_));go_ret2;exact⟨rfl,rfl⟩
 |true=>
  rw[hn,if_neg (by simp)] at he;rw[if_neg (by simp)];rcases zgG ok n with⟨v,hv,rfl,j,hjl,hj,hne,_,h0⟩|hn'
  ·have H1:=zH<|zbq ok w h v j hj hne
   have hj1:¬(j:Int)<0:=by omega
   clear h hj hne h0;cases hp:Zt x y with
   |false=>
    rw[if_pos rfl];clear he;go_in;go_wp2_with (first|(go_at_call 79;refine sM H1.out ?_)|(go_at_call 80;refine sM (zbk _ _ _) ?_));go_ret2;exact⟨rfl,rfl⟩
   |true=>
    rw[hp,if_neg (by simp)] at he;rw[if_neg (by simp)];cases hs:ZC W H with
    |false=>
     rw[if_pos rfl];clear he;go_in;go_wp2_with (first|(go_at_call 79;refine sM H1.out ?_)|(go_at_call 80;refine sM (zbk _ _ _) ?_)|(go_at_call 73;refine sM (zbv _ _ _) ?_));go_ret2;exact⟨rfl,rfl⟩
    |true=>
     rw[hs,if_neg (by simp)] at he;rw[if_neg (by simp)];by_cases h16:16<=L.length
     ·rw[if_pos h16];have h16':(16:Int)<=(L.length:Int):=by omega
      clear he;go_in;go_wp2_with (first|(go_at_call 79;refine sM H1.out ?_)|(go_at_call 80;refine sM (zbk _ _ _) ?_)|(go_at_call 73;refine sM (zbv _ _ _) ?_));go_ret2;exact⟨rfl,rfl⟩
     ·rw[if_neg h16] at he;exact absurd rfl he
  ·rw[hn] at hn';simp at hn'
theorem zkO (w:World) (n x y W H:Int):
 Calls Tryz.prog 96 #[.pointer none,.int .i64 n,.int .i64 x,.int .i64 y,.int .i64 W,.int .i64 H] w λe w'=>e=.returned (.tuple #[.int .i64 0,.int .i64 1])/\w'=w:=by
 go_in;go_wp2_with (first|(go_at_call 79;refine sM (zeW _ _) ?_));go_ret2;exact⟨rfl,rfl⟩
theorem zog (w:World) (n m:Int):
 Calls Tryz.prog 102 #[.pointer none,.int .i64 n,.int .i64 m] w λe w'=>e=.returned (.int .i64 1)/\w'=w:=by
 go_in;go_wp2_with (first|(go_at_call 79;refine sM (zeW _ _) ?_));go_ret;exact⟨rfl,rfl⟩
theorem zmn (ok:ZK L last) (w:World) (h:Zq w R L last) (n m:Int) (hm:zch L m=false):
 Calls Tryz.prog 102 #[.pointer (some ⟨R.d,0,none⟩),.int .i64 n,.int .i64 m] w λe w'=>e=.returned (.int .i64 1)/\w'=w:=by
 have H2:=zH<|zez ok w h m hm
 rcases zgG ok n with⟨v,hv,rfl,j,hjl,hj,hne,_,h0⟩|hn
 ·have H1:=zH<|zbq ok w h v j hj hne
  have hj1:¬(j:Int)<0:=by omega
  clear h hj hne h0;go_in;go_wp2_with fail;go_at_call 79;refine H1.out.mono ?_;rintro e w' ⟨rfl,hw'⟩;replace hw':=hw'.symm;subst hw';go_wp2_with (first|(go_at_call 79;refine sM H2.out ?_));go_ret;exact⟨rfl,rfl⟩
 ·have H1:=zH<|zez ok w h n hn
  clear h;go_in;go_wp2_with fail;go_at_call 79;refine H1.out.mono ?_;rintro e w' ⟨rfl,hw'⟩;replace hw':=hw'.symm;subst hw';go_wp2_with (first|(go_at_call 79;refine sM H2.out ?_));go_ret;exact⟨rfl,rfl⟩
theorem zqg (ok:ZK L last) (w:World) (h:Zq w R L last) (n:Int) (q:Wn) (k:Nat) (hk:L[k]?=some q) (hnk:∀i u,i<k->L[i]?=some u->u.n≠q.n) (he:zU L n≠0):
 Calls Tryz.prog 102 #[.pointer (some ⟨R.d,0,none⟩),.int .i64 n,.int .i64 q.n] w λe w'=>e=.returned (.int .i64 (zU L n))/\w'=w:=by
 have H2:=zH<|zbq ok w h q k hk hnk
 have hk1:¬(k:Int)<0:=by omega
 clear hk hnk;unfold zU at he ⊢;rcases zgG ok n with⟨v,hv,rfl,j,hjl,hj,hne,_,h0⟩|hn
 ·have hh:=zaX.2 ⟨v,hv,rfl⟩;rw[if_neg (by simp[hh])] at he ⊢;by_cases e0:v.n=0
  ·rw[if_pos e0];obtain rfl:=h0.2 e0;have H1:Hid (Calls Tryz.prog 79 #[.pointer (some ⟨R.d,0,none⟩),.int .i64 v.n] w λe w'=>e=.returned (.int .i64 0)/\w'=w):=zbq ok w h v 0 hj hne;clear h hj hne h0 he e0;go_in;go_wp2_with fail;go_at_call 79;refine H1.out.mono ?_;rintro e w' ⟨rfl,hw'⟩;replace hw':=hw'.symm;subst hw';go_wp2_with (first|(go_at_call 79;refine sM H2.out ?_));go_ret;exact⟨rfl,rfl⟩
  ·rw[if_neg e0] at he;omega
 ·rw[if_pos hn];have H1:=zH<|zez ok w h n hn
  clear h he;go_in;go_wp2_with fail;go_at_call 79;refine H1.out.mono ?_;rintro e w' ⟨rfl,hw'⟩;replace hw':=hw'.symm;subst hw';go_wp2_with (first|(go_at_call 79;refine sM H2.out ?_));go_ret;exact⟨rfl,rfl⟩
theorem zoh (ok:ZK L last) (w:World) (h:Zq w R L last) (n x y:Int) (b:ByteArray) (p:Pn) (he:zex L n x y b p≠0):
 Calls Tryz.prog 32 #[.pointer (some ⟨R.d,0,none⟩),.int .i64 n,.int .i64 x,.int .i64 y,.string b,p.agg] w λe w'=>e=.returned (.int .i64 (zex L n x y b p))/\Below w.heap.size w w':=by
 have hb1:Below w.heap.size w (w.alloc (.cells #[.int .i64 p.f,.int .i64 p.b,.bool p.bo,.bool p.un,.bool p.re] 33)):=(Below.refl _ _).alloc (Nat.le_refl _) _;have hRa:=h.below hb1;clear h;unfold zex at he ⊢;rcases zgG ok n with⟨v,hv,rfl,j,hjl,hj,hne,_,h0⟩|hn
 ·have hh:=zaX.2 ⟨v,hv,rfl⟩;rw[if_neg (by simp[hh])] at he ⊢;have H1:=zH<|zbq ok _ hRa v j hj hne
  have hj1:¬(j:Int)<0:=by omega
  clear hRa hj hne h0 hh;by_cases h2:Zt x y=false
  ·rw[if_pos h2];clear he;all_goals
    go_in;go_wp2_with (first|(go_at_call 79;refine sM H1.out ?_)|(go_at_call 80;refine sM (zbk _ _ _) ?_));go_ret;exact⟨rfl,hb1⟩
  rw[if_neg h2] at he ⊢;have h2p:Zt x y=true:=by simpa using h2
  clear h2;by_cases h2:200<b.size
  ·rw[if_pos h2];have h3':(200:Int)<(b.size:Int):=by omega
   clear he;all_goals
    go_in;go_wp2_with (first|(go_at_call 79;refine sM H1.out ?_)|(go_at_call 80;refine sM (zbk _ _ _) ?_));go_ret;exact⟨rfl,hb1⟩
  rw[if_neg h2] at he ⊢;have h3':¬(200:Int)<(b.size:Int):=by omega
  clear h2;by_cases h4:zdA p=false
  ·rw[if_pos h4];clear he;obtain⟨p0,p1,p2,p3,p4⟩:=ZO w p 33;go_in;go_wp2_with (first|(go_at_call 79;refine sM H1.out ?_)|(go_at_call 80;refine sM (zbk _ _ _) ?_));go_at_call 81;refine(znn p _).mono ?_;rw[h4];rintro e wb ⟨rfl,hbb⟩;have HB:=zH<|hb1.trans (hbb.mono hb1.size)
   clear p0 p1 p2 p3 p4 hbb;go_wp2_with fail;go_ret;exact⟨rfl,HB.out⟩
  ·rw[if_neg h4] at he;omega
 ·rw[if_pos hn];have H1:=zH<|zez ok _ hRa n hn
  clear hRa he hn;go_in;go_wp2_with (first|(go_at_call 79;refine sM H1.out ?_));go_ret;exact⟨rfl,hb1⟩
theorem zmo (w:World) (n x y:Int) (b:ByteArray) (p:Pn):
 Calls Tryz.prog 32 #[.pointer none,.int .i64 n,.int .i64 x,.int .i64 y,.string b,p.agg] w λe w'=>e=.returned (.int .i64 1)/\Below w.heap.size w w':=by
 go_in;go_wp2_with (first|(go_at_call 79;refine sM (zeW _ _) ?_));go_ret;exact⟨rfl,(Below.refl _ _).alloc (Nat.le_refl _) _⟩
theorem zqh (ok:ZK L last) (w:World) (h:Zq w R L last) (n x y ww hh:Int) (p:Pn) (he:zgD L n x y ww hh p≠0):
 Calls Tryz.prog 34 #[.pointer (some ⟨R.d,0,none⟩),.int .i64 n,.int .i64 x,.int .i64 y,.int .i64 ww,.int .i64 hh,p.agg] w λe w'=>e=.returned (.int .i64 (zgD L n x y ww hh p))/\Below w.heap.size w w':=by
 have hb1:Below w.heap.size w (w.alloc (.cells #[.int .i64 p.f,.int .i64 p.b,.bool p.bo,.bool p.un,.bool p.re] 33)):=(Below.refl _ _).alloc (Nat.le_refl _) _;have hRa:=h.below hb1;clear h;unfold zgD at he ⊢;rcases zgG ok n with⟨v,hv,rfl,j,hjl,hj,hne,_,h0⟩|hn
 ·have hh:=zaX.2 ⟨v,hv,rfl⟩;rw[if_neg (by simp[hh])] at he ⊢;have H1:=zH<|zbq ok _ hRa v j hj hne
  have hj1:¬(j:Int)<0:=by omega
  clear hRa hj hne h0 hh;by_cases h2:Zt x y=false
  ·rw[if_pos h2];clear he;all_goals
    go_in;go_wp2_with (first|(go_at_call 79;refine sM H1.out ?_)|(go_at_call 80;refine sM (zbk _ _ _) ?_));go_ret;exact⟨rfl,hb1⟩
  rw[if_neg h2] at he ⊢;have h2p:Zt x y=true:=by simpa using h2
  clear h2;by_cases h2:zef ww hh=false
  ·rw[if_pos h2];have hrr:(Wd.inB ww 0 1000&&Wd.inB hh 0 1000)=false:=h2;cases hr1:Wd.inB ww 0 1000<;>cases hr2:Wd.inB hh 0 1000<;>simp[hr1,hr2] at hrr;clear he;all_goals
    go_in;go_wp2_with (first|(go_at_call 79;refine sM H1.out ?_)|(go_at_call 80;refine sM (zbk _ _ _) ?_)|(go_at_call 86;refine sM (Wd.refBetween _ _ _ _) ?_));go_ret;exact⟨rfl,hb1⟩
  rw[if_neg h2] at he ⊢;have hrr:(Wd.inB ww 0 1000&&Wd.inB hh 0 1000)=true:=by cases q:zef ww hh;exact absurd q h2;exact q
  obtain⟨hr1,hr2⟩:Wd.inB ww 0 1000=true/\Wd.inB hh 0 1000=true:=by simpa using hrr
  clear h2;by_cases h4:zdA p=false
  ·rw[if_pos h4];clear he;obtain⟨p0,p1,p2,p3,p4⟩:=ZO w p 33;go_in;go_wp2_with (first|(go_at_call 79;refine sM H1.out ?_)|(go_at_call 80;refine sM (zbk _ _ _) ?_)|(go_at_call 86;refine sM (Wd.refBetween _ _ _ _) ?_));go_at_call 81;refine(znn p _).mono ?_;rw[h4];rintro e wb ⟨rfl,hbb⟩;have HB:=zH<|hb1.trans (hbb.mono hb1.size)
   clear p0 p1 p2 p3 p4 hbb;go_wp2_with fail;go_ret;exact⟨rfl,HB.out⟩
  ·rw[if_neg h4] at he;omega
 ·rw[if_pos hn];have H1:=zH<|zez ok _ hRa n hn
  clear hRa he hn;go_in;go_wp2_with (first|(go_at_call 79;refine sM H1.out ?_));go_ret;exact⟨rfl,hb1⟩
theorem zoi (w:World) (n x y ww hh:Int) (p:Pn):
 Calls Tryz.prog 34 #[.pointer none,.int .i64 n,.int .i64 x,.int .i64 y,.int .i64 ww,.int .i64 hh,p.agg] w λe w'=>e=.returned (.int .i64 1)/\Below w.heap.size w w':=by
 go_in;go_wp2_with (first|(go_at_call 79;refine sM (zeW _ _) ?_));go_ret;exact⟨rfl,(Below.refl _ _).alloc (Nat.le_refl _) _⟩
end
theorem zmp {w w':World} {b:Option Nat} (h:w.grownBy w' b):zd (λi=>b=some i) w w':=⟨h.os,h.tape,h.output,h.size,λi hi hF=>h.block i hi (λe=>hF e.symm)⟩
section
variable {R:Rm} {L:List Wn} {last:Int}
theorem zkP {c c':Int->Nat} {L:List Wn} (h:∀u∈L,c u.n=c' u.n):ZE c L=ZE c' L:=by
 induction L with
 |nil=>rfl
 |cons a t ih=>
  have e:∀(c:Int->Nat),ZE c (a::t)=zbC c a++ZE c t:=λc=>by simp[ZE]
  rw[e,e,ih (λu hu=>h u (List.mem_cons_of_mem _ hu))];unfold zbC;rw[h a List.mem_cons_self]
def Rm.more (R:Rm) (n:Int) (l:Value) (bc g cap:Nat):Rm:=⟨R.d,l,Zo R.c n bc,Zo R.g n g,Zo R.cap n cap⟩
theorem zoj {w w8:World} (ok:ZK L last) (h:Zq w R L last) (v:Wn) (x y:Int) (W H bc gg cc g7 cap7:Nat) (lc:w.heap.size<=bc) (lg:w.heap.size<=gg)
 (hd:w8.heap[R.d]?=some (.cells #[.slice (some ⟨g7,0,none⟩) (L.length+1) cap7,.int .i64 (last+1)] 110))
 (hr:w8.ownsRow 2 107 6 (.slice (some ⟨g7,0,none⟩) (L.length+1) cap7) (L.length+1) (ZE (Zo R.c (last+1) bc) (L ++ [⟨last+1,v.n,x,y,true,W,H,λ_ _=>blk Pn.plain⟩])))
 (hC:Zp w8 bc gg cc W H (H*W) (λ_ _=>blk Pn.plain)) (hg:R.l.ownBlock=some g7\/(w.heap.size<=g7/\g7≠bc/\g7≠gg)) (hk:zd (λi=>i=R.d\/R.l.ownBlock=some i) w w8) (r:Value):
 Zr R L (L ++ [⟨last+1,v.n,x,y,true,W,H,λ_ _=>blk Pn.plain⟩]) (last+1) w r (.returned r) w8:=by
 obtain⟨rk,K,T⟩:=ok.tree;obtain⟨nw,hnw⟩:∃nw:Wn,nw=⟨last+1,v.n,x,y,true,W,H,λ_ _=>blk Pn.plain⟩:=⟨_,rfl⟩;have hnn:nw.n=last+1:=by rw[hnw]
 rw[←hnw] at hr ⊢;have hle:∀u∈L,u.n≠last+1:=λu hu=>by have:=ok.le u hu;omega
 have hB:=h.two _ (zbp R L);have hlt:=h.lt (zbp R L);have hnl:L.length+1=(L ++ [nw]).length:=by simp
 have hold:∀p:Pl,p.okR (L ++ [nw])->¬((∃k,p=.win (last+1) k)\/p=.top 1)->p.okR L/\(R.more (last+1) (.slice (some ⟨g7,0,none⟩) (L.length+1) cap7) bc gg cc).blk p=R.blk p:=by
  intro p hp hf;cases p with
  |top k=>
   have hk2:k<2:=hp;match k,hk2 with
   |0,_=>exact⟨hp,rfl⟩
   |1,_=>exact absurd (.inr rfl) hf
  |win n k=>
   obtain⟨hk2,u,hu,hun⟩:=hp;have hn:n≠last+1:=λe=>hf (.inl ⟨k,by rw[e]⟩);have huL:u∈L:=by
    rcases List.mem_append.1 hu with hu|hu
    ·exact hu
    ·obtain rfl:u=nw:=by simpa using hu
     exact absurd (hun.symm.trans hnn) hn
   refine⟨⟨hk2,u,huL,hun⟩,?_⟩;match k,hk2 with
   |0,_=>simp[Rm.blk,Rm.more,zn _ _ hn]
   |1,_=>simp[Rm.blk,Rm.more,zn _ _ hn]
 have hfr:∀(p:Pl) (i:Nat),p.okR (L ++ [nw])->((∃k,p=.win (last+1) k)\/p=.top 1)->(R.more (last+1) (.slice (some ⟨g7,0,none⟩) (L.length+1) cap7) bc gg cc).blk p=some i->((p=.win (last+1) 0/\i=bc)\/(p=.win (last+1) 1/\i=gg)\/(p=.top 1/\i=g7)):=by
  rintro p i hp (⟨k,rfl⟩|rfl) e
  ·have hk2:=hp.1;match k,hk2 with
   |0,_=>exact .inl ⟨rfl,by simpa[Rm.blk,Rm.more,zD] using e.symm⟩
   |1,_=>exact .inr (.inl ⟨rfl,by simpa[Rm.blk,Rm.more,zD] using e.symm⟩)
  ·exact .inr (.inr ⟨rfl,by simpa[Rm.blk,Rm.more,Value.ownBlock] using e.symm⟩)
 have hne:=hC.ne;have hown:∀i,(R.more (last+1) (.slice (some ⟨g7,0,none⟩) (L.length+1) cap7) bc gg cc).own (L ++ [nw]) i->R.own L i\/w.heap.size<=i:=by
  rintro i ⟨p,hp,e⟩;by_cases hf:(∃k,p=.win (last+1) k)\/p=.top 1
  ·rcases hfr p i hp hf e with⟨_,r⟩|⟨_,r⟩|⟨_,r⟩
   ·exact .inr (by omega)
   ·exact .inr (by omega)
   ·rcases hg with q|q
    ·exact .inl (r ▸ zc1 R L q)
    ·exact .inr (by omega)
  ·obtain⟨a,b⟩:=hold p hp hf;exact .inl ⟨p,a,by rw[←b];exact e⟩
 refine⟨R.more (last+1) (.slice (some ⟨g7,0,none⟩) (L.length+1) cap7) bc gg cc,rfl,⟨hd,?_,?_,?_,?_,?_⟩,rfl,hk.mono (λi e=>e.elim (λe=>e ▸ zbp R L) (λe=>zc1 R L e)),hown⟩
 ·show w8.ownsRow _ _ _ (.slice (some ⟨g7,0,none⟩) (L.length+1) cap7) _ (ZE (Zo R.c (last+1) bc) _);rw[←hnl];exact hr
 ·intro u hu;show Zp w8 (Zo R.c (last+1) bc u.n) (Zo R.g (last+1) gg u.n) (Zo R.cap (last+1) cc u.n) u.W u.H (u.H*u.W) u.G;rcases List.mem_append.1 hu with hu|hu
  ·rw[zn _ _ (hle u hu),zn _ _ (hle u hu),zn _ _ (hle u hu)];have kk:=λk i hk2 e=>hk.block i (h.lt ⟨.win u.n k,⟨hk2,u,hu,rfl⟩,e⟩) (by
    rintro(e'|e')
    ·exact h.ne (p:=.win u.n k) (q:=.top 0) ⟨hk2,u,hu,rfl⟩ (show 0<2 by omega) e rfl (by simp) e'
    ·exact h.ne (p:=.win u.n k) (q:=.top 1) ⟨hk2,u,hu,rfl⟩ (show 1<2 by omega) e e' (by simp) rfl)
   exact(h.win u hu).same (kk 0 _ (by omega) rfl) (kk 1 _ (by omega) rfl)
  ·obtain rfl:u=nw:=by simpa using hu
   rw[hnn,zD,zD,zD,hnw];exact hC
 ·intro u hu;rcases List.mem_append.1 hu with hu|hu
  ·exact h.wf u hu
  ·obtain rfl:u=nw:=by simpa using hu
   rw[hnw];exact zep _ _
 ·intro p q i hp hq e1 e2;have key:∀p:Pl,p.okR (L ++ [nw])->(R.more (last+1) (.slice (some ⟨g7,0,none⟩) (L.length+1) cap7) bc gg cc).blk p=some i->(p.okR L/\p≠.top 1/\R.blk p=some i/\i<w.heap.size)\/(p=.win (last+1) 0/\i=bc)\/(p=.win (last+1) 1/\i=gg)\/(p=.top 1/\i=g7):=λp hp e=>by
   by_cases hf:(∃k,p=.win (last+1) k)\/p=.top 1
   ·exact .inr (hfr p i hp hf e)
   ·obtain⟨a,b⟩:=hold p hp hf;rw[b] at e;exact .inl ⟨a,λq=>hf (.inr q),e,h.lt ⟨p,a,e⟩⟩
  rcases key p hp e1 with⟨a1,a2,a3,a4⟩|⟨rfl,a⟩|⟨rfl,a⟩|⟨rfl,a⟩<;>rcases key q hq e2 with⟨b1,b2,b3,b4⟩|⟨rfl,b⟩|⟨rfl,b⟩|⟨rfl,b⟩
  ·exact h.inj p q i a1 b1 a3 b3
  ·omega
  ·omega
  ·rcases hg with q|q
   ·exact h.inj p (.top 1) i a1 (show 1<2 by omega) a3 (by rw[b];exact q)
   ·omega
  ·omega
  ·rfl
  ·omega
  ·exfalso;rcases hg with q|q
   ·have:=h.lt (zc1 R L q);omega
   ·omega
  ·omega
  ·omega
  ·rfl
  ·exfalso;rcases hg with q|q
   ·have:=h.lt (zc1 R L q);omega
   ·omega
  ·rcases hg with r|r
   ·exact h.inj (.top 1) q i (show 1<2 by omega) b1 (by rw[a];exact r) b3
   ·omega
  ·exfalso;rcases hg with q|q
   ·have:=h.lt (zc1 R L q);omega
   ·omega
  ·exfalso;rcases hg with q|q
   ·have:=h.lt (zc1 R L q);omega
   ·omega
  ·rfl
 ·intro i hi;rcases hown i hi with e|e
  ·exact h.two i e
  ·omega
theorem zqi (ok:ZK L last) (w:World) (h:Zq w R L last) (v:Wn) (j:Nat) (hj:L[j]?=some v) (hne:∀i u,i<j->L[i]?=some u->u.n≠v.n) (x y:Int) (W H':Nat) (hp:Zt x y=true) (hs:ZC W H'=true) (hlen:L.length<16) (hlast:last<9223372036854775807) (hl0:0<=last):
 Calls Tryz.prog 96 #[.pointer (some ⟨R.d,0,none⟩),.int .i64 v.n,.int .i64 x,.int .i64 y,.int .i64 W,.int .i64 H'] w (Zr R L (L ++ [⟨last+1,v.n,x,y,true,W,H',λ_ _=>blk Pn.plain⟩]) (last+1) w (.tuple #[.int .i64 (last+1),.int .i64 0])):=by
 have HR:=zH h;have H:=zH<|zbq ok w h v j hj hne
 have d0:=h.d0;have d1:=h.d1;obtain⟨g,cap,hl,hw,hfz,_⟩:=h.sl ok.one;rw[hl] at d0;have fz:=ze h.blk;have hj1:¬(j:Int)<0:=by omega
 have hlen':¬(16:Int)<=(L.length:Int):=by omega
 have hz:=Zs.1 hs;have sl:IntKind.i64.wrap (last+1)=last+1:=zm _ (by omega) (by omega);clear h hw hj hne;go_in;go_wp2_with (first|(go_at_call 79;refine sM H.out ?_)|(go_at_call 80;refine sM (zbk _ _ _) ?_)|(go_at_call 73;refine sM (zbv _ _ _) ?_));have hbs:(w.setCell ⟨R.d,1,none⟩ (.int .i64 (last+1))).heap[R.d]?=some (.cells #[R.l,.int .i64 (last+1)] 110):=zg HR.out.blk 1 _;have hks:zd (λi=>i=R.d) w (w.setCell ⟨R.d,1,none⟩ (.int .i64 (last+1))):=(zd.refl _ _).setCell _ _ (λ_=>rfl);generalize w.setCell ⟨R.d,1,none⟩ (.int .i64 (last+1))=ws at *;have d0s:ws.cell? ⟨R.d,0,none⟩=some (.slice (some ⟨g,0,none⟩) L.length cap):=by rw[za hbs 0,hl];rfl
 have d1s:ws.cell? ⟨R.d,1,none⟩=some (.int .i64 (last+1)):=za hbs 1;have fzs:=ze hbs;have hbl:=(Array.getElem?_eq_some_iff.1 hbs).1;have hgl:R.l.ownBlock=some g:=by rw[hl];rfl
 have hgd:=HR.out.ne (p:=.top 1) (q:=.top 0) (show 1<2 by omega) (show 0<2 by omega) hgl rfl (by simp);have Hrow:Hid (ws.ownsRow 2 107 6 (.slice (some ⟨g,0,none⟩) L.length cap) L.length (ZE R.c L)):=by
  have:=zx HR.out.row (w':=ws) (λi hi=>hks.block _ (HR.out.lt (zc1 R L hi)) (λe=>by rw[hgl] at hi;injection hi with hi;omega));rw[hl] at this;exact this
 have Hbs:=zH hbs;have Hks:=zH hks;have hB2:=HR.out.two _ (zbp R L);have Hl:=zH hl;clear hbs hks d0 d1 fz;go_region_law (first|(go_simp;go_at_call 74;refine(zg3 W H' _ (by omega) (by omega) (by omega) (by omega)).mono ?_;rintro e w5 ⟨bc,gg,cc,rfl,lc,lg,C5,hb5⟩;have hb6:=zL hb5;have e1:=hb6.cells hbl;have e2:=hb6.marks hbl;have HC5:=zH<|C5;have Hlc:Hid (ws.heap.size<=bc/\ws.heap.size<=gg):=⟨lc,lg⟩;have Hb6:=zH<|hb6;have Hr6:Hid (w5.ownsRow 2 107 6 (.slice (some ⟨g,0,none⟩) L.length cap) L.length (ZE (Zo R.c (last+1) bc) L)):=(by show World.ownsRow _ _ _ _ _ _ _;rw[←zkP (c:=R.c) (λu hu=>(zn R.c bc (by have:=ok.le u hu;omega)).symm)];exact zx Hrow.out (λi hi=>hb6.block _ (Hrow.out.lt i hi).2));have l6:=Nat.lt_of_lt_of_le hbl hb6.size;clear hb5 C5 lc lg hb6)|(refine zgV _ (by rfl) (.tmp 49) (.tmp 61) (by rfl) 2 (.slice (some ⟨g,0,none⟩) L.length cap) (Zo R.c (last+1) bc) L ⟨last+1,v.n,x,y,true,W,H',λ_ _=>blk Pn.plain⟩ L.length rfl (by simp[Act.eval]) (zx Hr6.out (λi hi=>Below.heap_alloc _ _ _ (Hr6.out.lt i hi).2)) w5.heap.size (by simp[Act.eval]) (by rw[show Zo R.c (last+1) bc (last+1)=bc from zD _ _ _];exact zf w5 _) (by omega) (by simp;omega) ?_;intro g7 cap7 w7 hr7 hg7 ho7 hl7;have hbk:=(hg7.block _ (by simp;omega) (λe=>hgd (by injection e with e;exact e.symm))).trans ((Below.heap_alloc _ _ _ l6).trans ((Hb6.out.block _ hbl).trans Hbs.out));have c7:w7.cell? ⟨R.d,0,none⟩=some R.l:=(za hbk 0);have f7:=ze hbk 0));all_goals
  have hz5:w5.heap.size<w7.heap.size:=by have:=hg7.size;simp at this;omega
  have K7:zd (λi=>i=R.d\/R.l.ownBlock=some i) w (w7.setCell ⟨R.d,0,none⟩ (.slice (some ⟨g7,0,none⟩) (L.length+1) cap7)):=by
   have k5:zd (λi=>i=R.d\/R.l.ownBlock=some i) w (w5.alloc (.cells (zdF ⟨last+1,v.n,x,y,true,W,H',λ_ _=>blk Pn.plain⟩ bc) 107)):=((Hks.out.mono (λi e=>.inl e)).trans (zd.below _ Hb6.out) (λ_ _ q=>q)).trans (zd.below _ ((Below.refl _ _).alloc (Nat.le_refl _) _)) (λ_ _ q=>q);refine(k5.trans (zmp hg7) (λi _ e=>.inr ?_)).setCell _ _ (λ_=>.inl rfl);rw[hgl];exact e
  have HP:Hid (Zr R L (L ++ [⟨last+1,v.n,x,y,true,W,H',λ_ _=>blk Pn.plain⟩]) (last+1) w (.tuple #[.int .i64 (last+1),.int .i64 0]) (.returned (.tuple #[.int .i64 (last+1),.int .i64 0])) (w7.setCell ⟨R.d,0,none⟩ (.slice (some ⟨g7,0,none⟩) (L.length+1) cap7))):=by
   have zs:=Hks.out.size;have z5:=Hb6.out.size;have hlc:=Hlc.out;have lt1:=HC5.out.lt;have lt2:=HC5.out.glt;have cs:∀i,i<w5.heap.size->i≠R.d->i≠g->(w7.setCell ⟨R.d,0,none⟩ (.slice (some ⟨g7,0,none⟩) (L.length+1) cap7)).heap[i]?=w5.heap[i]?:=λi hi n1 n2=>by
    rw[Below.heap_setCell _ _ _ _ n1,hg7.block _ (by simp;omega) (λe=>n2 (by injection e with e)),Below.heap_alloc _ _ _ hi]
   have hgw:=HR.out.lt (zc1 R L hgl);refine zoj ok HR.out v x y W H' bc gg cc g7 cap7 (by omega) (by omega) ?_ ?_ (HC5.out.same (cs _ lt1 (by omega) (by omega)) (cs _ lt2 (by omega) (by omega))) ?_ K7 _
   ·exact zg hbk 0 _
   ·refine zx hr7 (λi hi=>Below.heap_setCell _ _ _ _ ?_);injection hi with hi;have hi':g7=i:=hi;rcases ho7 with e|e
    ·injection e with e;have e':g=g7:=e;show i≠R.d;omega
    ·simp at e;show i≠R.d;omega
   ·rcases ho7 with e|e
    ·exact .inl (by rw[hgl];exact e)
    ·simp at e;exact .inr ⟨by omega,by omega,by omega⟩
  have d1w:(w7.setCell ⟨R.d,0,none⟩ (.slice (some ⟨g7,0,none⟩) (L.length+1) cap7)).cell? ⟨R.d,1,none⟩=some (.int .i64 (last+1)):=za (zg hbk 0 (.slice (some ⟨g7,0,none⟩) (L.length+1) cap7)) 1;generalize w7.setCell ⟨R.d,0,none⟩ (.slice (some ⟨g7,0,none⟩) (L.length+1) cap7)=w8 at *;clear hr7 hg7 ho7 hl7 hbk c7 f7 e1 e2 K7 hz5 d0s d1s fzs;go_wp2_with fail;go_ret2;exact HP.out
end
theorem zso (x y:Int) (w:World) (hs:ZC x y=false):
 Calls Tryz.prog 29 #[.int .i64 x,.int .i64 y] w λe w'=>e=.returned (.pointer none)/\w'=w:=by
 go_in;go_wp2_with (first|(go_at_call 73;refine sM (zbv _ _ _) ?_));go_ret;exact⟨rfl,rfl⟩
theorem zvH (W H:Nat) (w:World) (hs:ZC W H=true) (hw:2<=w.heap.size):
 Calls Tryz.prog 29 #[.int .i64 W,.int .i64 H] w λe w'=>∃R:Rm,e=.returned (.pointer (some ⟨R.d,0,none⟩))/\Zq w' R [Zd W H] 0/\Below w.heap.size w w'/\∀i,R.own [Zd W H] i->w.heap.size<=i:=by
 have hz:=Zs.1 hs;go_in;go_wp2_with (first|(go_at_call 73;refine sM (zbv _ _ _) ?_));go_at_call 74;refine(zg3 W H _ (by omega) (by omega) (by omega) (by omega)).mono ?_;rintro e w1 ⟨bc,g,cap,rfl,lc,lg,C1,b1⟩;have HC:=zH C1;have HB:=zH b1;have lt1:=C1.lt;have lt2:=C1.glt;have hne:=C1.ne;have s1:=b1.size;clear C1 b1;have HP:Hid (∃R:Rm,Ending.returned (.pointer (some ⟨w1.heap.size+1,0,none⟩))=.returned (.pointer (some ⟨R.d,0,none⟩))/\Zq ((w1.alloc (.cells #[.int .i64 0,.int .i64 (-1),.int .i64 0,.int .i64 0,.bool true,.pointer (some ⟨bc,0,none⟩)] 107)).alloc (.cells #[.slice (some ⟨w1.heap.size,0,none⟩) 1 1,.int .i64 0] 110)) R [Zd W H] 0/\Below w.heap.size w ((w1.alloc (.cells #[.int .i64 0,.int .i64 (-1),.int .i64 0,.int .i64 0,.bool true,.pointer (some ⟨bc,0,none⟩)] 107)).alloc (.cells #[.slice (some ⟨w1.heap.size,0,none⟩) 1 1,.int .i64 0] 110))/\∀i,R.own [Zd W H] i->w.heap.size<=i):=by
  have bA:Below w1.heap.size w1 ((w1.alloc (.cells #[.int .i64 0,.int .i64 (-1),.int .i64 0,.int .i64 0,.bool true,.pointer (some ⟨bc,0,none⟩)] 107)).alloc (.cells #[.slice (some ⟨w1.heap.size,0,none⟩) 1 1,.int .i64 0] 110)):=((Below.refl _ _).alloc (Nat.le_refl _) _).alloc (by simp) _;have hb0:((w1.alloc (.cells #[.int .i64 0,.int .i64 (-1),.int .i64 0,.int .i64 0,.bool true,.pointer (some ⟨bc,0,none⟩)] 107)).alloc (.cells #[.slice (some ⟨w1.heap.size,0,none⟩) 1 1,.int .i64 0] 110)).heap[w1.heap.size]?=some (.cells #[.int .i64 0,.int .i64 (-1),.int .i64 0,.int .i64 0,.bool true,.pointer (some ⟨bc,0,none⟩)] 107):=by
   rw[Below.heap_alloc _ _ _ (by simp)];exact zf w1 _
  have hb1:((w1.alloc (.cells #[.int .i64 0,.int .i64 (-1),.int .i64 0,.int .i64 0,.bool true,.pointer (some ⟨bc,0,none⟩)] 107)).alloc (.cells #[.slice (some ⟨w1.heap.size,0,none⟩) 1 1,.int .i64 0] 110)).heap[w1.heap.size+1]?=some (.cells #[.slice (some ⟨w1.heap.size,0,none⟩) 1 1,.int .i64 0] 110):=by
   have:=zf (w1.alloc (.cells #[.int .i64 0,.int .i64 (-1),.int .i64 0,.int .i64 0,.bool true,.pointer (some ⟨bc,0,none⟩)] 107)) (.cells #[.slice (some ⟨w1.heap.size,0,none⟩) 1 1,.int .i64 0] 110);rw[size_alloc] at this;exact this
  generalize (w1.alloc (.cells #[.int .i64 0,.int .i64 (-1),.int .i64 0,.int .i64 0,.bool true,.pointer (some ⟨bc,0,none⟩)] 107)).alloc (.cells #[.slice (some ⟨w1.heap.size,0,none⟩) 1 1,.int .i64 0] 110)=w3 at *;have own:∀(p:Pl) (i:Nat),p.okR [Zd W H]->Rm.blk ⟨w1.heap.size+1,.slice (some ⟨w1.heap.size,0,none⟩) 1 1,λ_=>bc,λ_=>g,λ_=>cap⟩ p=some i->(p=.top 0/\i=w1.heap.size+1)\/(p=.top 1/\i=w1.heap.size)\/(p=.win 0 0/\i=bc)\/(p=.win 0 1/\i=g):=by
   intro p i hp e;cases p with
   |top k=>
    have hk:k<2:=hp;match k,hk with
    |0,_=>exact .inl ⟨rfl,by simpa[Rm.blk] using e.symm⟩
    |1,_=>exact .inr (.inl ⟨rfl,by simpa[Rm.blk,Value.ownBlock] using e.symm⟩)
   |win n k=>
    obtain⟨hk,v,hv,e'⟩:=hp;obtain rfl:v=Zd W H:=by simpa using hv
    obtain rfl:(0:Int)=n:=e';match k,hk with
    |0,_=>exact .inr (.inr (.inl ⟨rfl,by simpa[Rm.blk] using e.symm⟩))
    |1,_=>exact .inr (.inr (.inr ⟨rfl,by simpa[Rm.blk] using e.symm⟩))
  refine⟨⟨w1.heap.size+1,.slice (some ⟨w1.heap.size,0,none⟩) 1 1,λ_=>bc,λ_=>g,λ_=>cap⟩,rfl,⟨hb1,?_,?_,?_,?_,?_⟩,HB.out.trans (bA.mono s1),?_⟩
  ·exact⟨rfl,.inr ⟨w1.heap.size,1,_,rfl,by omega,hb0,Nat.le_refl _,by decide,rfl,rfl⟩⟩
  ·intro v hv;obtain rfl:v=Zd W H:=by simpa using hv
   exact HC.out.below bA
  ·intro v hv;obtain rfl:v=Zd W H:=by simpa using hv
   exact zep _ _
  ·intro p q i hp hq e1 e2;rcases own p i hp e1 with⟨rfl,a⟩|⟨rfl,a⟩|⟨rfl,a⟩|⟨rfl,a⟩<;>rcases own q i hq e2 with⟨rfl,b⟩|⟨rfl,b⟩|⟨rfl,b⟩|⟨rfl,b⟩<;>first|rfl|(exfalso;omega)
  ·rintro i ⟨p,hp,e⟩;rcases own p i hp e with⟨_,a⟩|⟨_,a⟩|⟨_,a⟩|⟨_,a⟩<;>omega
  ·rintro i ⟨p,hp,e⟩;rcases own p i hp e with⟨_,a⟩|⟨_,a⟩|⟨_,a⟩|⟨_,a⟩<;>omega
 go_wp2_with fail;go_ret;exact HP.out
end
end Go.Proofs.YtjlfibhbfdckpaaGreatDoor
