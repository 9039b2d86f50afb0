import Derived.Test.YtjlfibhbfdckpaaGreatDoorV19
import Derived.Test.YtjlfibhbfdckpaaGreatDoorV21
namespace Go.Proofs.YtjlfibhbfdckpaaGreatDoor
set_option maxHeartbeats 64000000
set_option maxRecDepth 100000
section
open Go.RowKit
attribute [local go_sem ↓] Go.wp_at_zero Go.wp_at_succ
structure zbI (w:World) (pc bs bg g N:Nat) (s:Rs):Prop where
 blk:w.heap[pc]?=some (.cells #[.pointer (some ⟨bs,0,none⟩)] 91)
 pr:∃t,zh w bs bg g N s t/\Tie s.B t
 ok:s.Ok
 ne1:pc≠bs
 ne2:pc≠bg
 ne3:pc≠g
 l1:2<=bs
 l2:2<=bg
 l3:2<=g
section
variable {w w':World} {pc bs bg g N:Nat} {s:Rs}
theorem zbI.lt (h:zbI w pc bs bg g N s):pc<w.heap.size:=(Array.getElem?_eq_some_iff.1 h.blk).1
theorem zbI.c0 (h:zbI w pc bs bg g N s):w.cell? ⟨pc,0,none⟩=some (.pointer (some ⟨bs,0,none⟩)):=za h.blk 0
theorem zbI.same (h:zbI w pc bs bg g N s) (h0:w'.heap[pc]?=w.heap[pc]?) (h1:w'.heap[bs]?=w.heap[bs]?) (h2:w'.heap[bg]?=w.heap[bg]?) (h3:w'.heap[g]?=w.heap[g]?):zbI w' pc bs bg g N s:=by
 obtain⟨t,P,T⟩:=h.pr;exact⟨by rw[h0];exact h.blk,⟨t,P.same h1 h2 h3,T⟩,h.ok,h.ne1,h.ne2,h.ne3,h.l1,h.l2,h.l3⟩
theorem zbI.keep {F:Nat->Prop} (h:zbI w pc bs bg g N s) (k:zd F w w') (h0:¬F pc) (h1:¬F bs) (h2:¬F bg) (h3:¬F g):zbI w' pc bs bg g N s:=by
 obtain⟨t,P,T⟩:=h.pr;exact h.same (k.block _ h.lt h0) (k.block _ P.lt h1) (k.block _ P.gr.lt h2) (k.block _ P.gr.glt h3)
theorem zbI.below (h:zbI w pc bs bg g N s) (hb:Below w.heap.size w w'):zbI w' pc bs bg g N s:=
 h.keep (zd.below (λ_=>False) hb) id id id id
end
def ztN (pc bs bg g:Nat) (w:World) (s:Rs) (r:Value) (e:Ending) (w':World):Prop:=
 ∃g' N',e=.returned r/\zbI w' pc bs bg g' N' s/\zd (λi=>i=bs\/i=bg\/i=g) w w'/\(g'=g\/w.heap.size<=g')
theorem zjr (pc bs bg g N:Nat) (s:Rs) (w:World) (h:zbI w pc bs bg g N s):
 Calls Tryz.prog 58 #[.pointer (some ⟨pc,0,none⟩)] w λe w'=>e=.returned (.bool false)/\w'=w:=by
 have c:=h.c0;clear h;go_in;go_wp2;go_ret;exact⟨rfl,rfl⟩
theorem zf0 (w:World):
 Calls Tryz.prog 58 #[.pointer none] w λe w'=>e=.returned (.bool true)/\w'=w:=by
 go_in;go_wp2;go_ret;exact⟨rfl,rfl⟩
theorem zuX (x y:Int) (w:World) (hs:ZC x y=false):
 Calls Tryz.prog 45 #[.int .i64 x,.int .i64 y] w λe w'=>e=.returned (.tuple #[.pointer none,.int .i64 3])/\w'=w:=by
 go_in;go_wp2_with (first|(go_at_call 46;refine sM (zcg _ _ _) ?_));go_ret2;exact⟨rfl,rfl⟩
theorem zte (W H:Nat) (w:World) (w1:1<=W) (w2:W<=40) (h1:1<=H) (h2:H<=20) (hw:2<=w.heap.size):
 Calls Tryz.prog 45 #[.int .i64 W,.int .i64 H] w λe w'=>∃pc bs bg g,e=.returned (.tuple #[.pointer (some ⟨pc,0,none⟩),.int .i64 0])/\zbI w' pc bs bg g (H*W) (zfh W H)/\Below w.heap.size w w'/\w.heap.size<=pc/\w.heap.size<=bs/\w.heap.size<=bg/\w.heap.size<=g:=by
 have hs:ZC W H=true:=Zs.2 (by omega);go_in;go_wp2_with (first|(go_at_call 46;refine sM (zcg _ _ _) ?_));go_at_call 106;refine(zvx W H _ w1 w2 h1 h2).mono ?_;rintro e wa ⟨bs,bg,g,rfl,P1,b1,l1,l2,l3⟩;have HP1:=zH P1;have HB1:=zH b1;clear P1 b1;go_wp2_with fail;go_ret2;have p:=HP1.out;have hbl:Below wa.heap.size wa (wa.alloc (.cells #[.pointer (some ⟨bs,0,none⟩)] 91)):=(Below.refl _ _).alloc (Nat.le_refl _) _;have q1:=p.lt;have q2:=p.gr.lt;have q3:=p.gr.glt;exact⟨wa.heap.size,bs,bg,g,rfl,⟨zf wa _,⟨zl2,p.below hbl,zg0 rfl rfl⟩,zg4 w1 w2 h1 h2,by omega,by omega,by omega,by omega,by omega,by omega⟩,HB1.out.trans (hbl.mono HB1.out.size),HB1.out.size,l1,l2,l3⟩
theorem zrw (b:ByteArray) (w:World):
 Calls Tryz.prog 22 #[.pointer none,.string b] w λe w'=>e=.returned (.tuple #[])/\w'=w:=by
 go_in;go_wp2_with (first|(go_at_call 58;refine sM (zf0 _) ?_));go_end0;exact⟨rfl,rfl⟩
theorem ztf (l:List UInt8):∀ {s:Rs},s.Ok->(zj s l).Ok:=by
 induction l with
 |nil=>intro s h;exact h
 |cons c r ih=>intro s h;exact ih (h.one c)
theorem zmP (x y:Int) (w:World):
 Calls Tryz.prog 19 #[.pointer none,.int .i64 x,.int .i64 y] w λe w'=>e=.returned (.int .i64 1)/\w'=w:=by
 go_in;go_wp2_with (first|(go_at_call 58;refine sM (zf0 _) ?_));go_ret;exact⟨rfl,rfl⟩
theorem zpk (pc bs bg g N:Nat) (s:Rs) (x y:Int) (w:World) (h:zbI w pc bs bg g N s) (hs:ZC x y=false):
 Calls Tryz.prog 19 #[.pointer (some ⟨pc,0,none⟩),.int .i64 x,.int .i64 y] w (ztN pc bs bg g w s (.int .i64 3)):=by
 have HC:=zH h;clear h;go_in;go_wp2_with (first|(go_at_call 58;refine sM (zjr pc bs bg g N s _ HC.out) ?_)|(go_at_call 46;refine sM (zcg _ _ _) ?_));go_ret;exact⟨g,N,rfl,HC.out,zd.refl _ _,Or.inl rfl⟩
theorem zmQ (pc bs bg g N:Nat) (s:Rs) (W H:Nat) (w:World) (h:zbI w pc bs bg g N s) (w1:1<=W) (w2:W<=40) (h1:1<=H) (h2:H<=20):
 Calls Tryz.prog 19 #[.pointer (some ⟨pc,0,none⟩),.int .i64 W,.int .i64 H] w (ztN pc bs bg g w (zaB s W H) (.int .i64 0)):=by
 have hs:ZC W H=true:=Zs.2 (by omega);have HC:=zH h;have c0:=h.c0;clear h;go_in;go_wp2_with (first|(go_at_call 58;refine sM (zjr pc bs bg g N s _ HC.out) ?_)|(go_at_call 46;refine sM (zcg _ _ _) ?_));go_at_call 59;obtain⟨t,P,tie⟩:=HC.out.pr;have hlt:=HC.out.lt;have l3:=HC.out.l3;refine(znl bs bg g N s t W H _ P HC.out.ok w1 w2 h1 h2).mono ?_;rintro e wa ⟨g1,N1,rfl,P1,K1,hg⟩;have HP1:Hid (∃t,zh wa bs bg g1 N1 (zaB s W H) t/\Tie (zaB s W H).B t):=⟨t,P1,tie⟩;clear P tie P1;go_wp2_with fail;go_ret;have q:=HC.out;have:=q.ne1;have:=q.ne2;have:=q.ne3;have hsz:=K1.size;have hp:2<=w.heap.size:=by have:=q.l1;obtain⟨t,P,_⟩:=q.pr;have:=P.lt;omega
 exact⟨g1,N1,rfl,⟨by rw[K1.block _ q.lt (λh=>by omega)];exact q.blk,HP1.out,zcT q.ok w1 w2 h1 h2,q.ne1,q.ne2,by omega,q.l1,q.l2,by omega⟩,K1,hg⟩
theorem zrx (x y:Int) (w:World):
 Calls Tryz.prog 60 #[.pointer none,.int .i64 x,.int .i64 y] w λe w'=>e=.returned (.tuple #[zbR.agg,.int .i64 1])/\Below w.heap.size w w':=by
 go_in;go_wp2_with (first|(go_at_call 58;refine sM (zf0 _) ?_));exact bodyPost_ret (v:=.tuple #[zbR.agg,.int .i64 1]) (by simp[results,Tryz.results60,go_sem,zbR,Pn.plain]) rfl ⟨rfl,(Below.refl _ _).alloc (Nat.le_refl _) _⟩
theorem ztg (pc bs bg g N:Nat) (s:Rs) (x y:Int) (w:World) (h:zbI w pc bs bg g N s) (hin:inG s.W s.H x y=false):
 Calls Tryz.prog 60 #[.pointer (some ⟨pc,0,none⟩),.int .i64 x,.int .i64 y] w λe w'=>e=.returned (.tuple #[zbR.agg,.int .i64 4])/\Below w.heap.size w w':=by
 have hbl:Below w.heap.size w (w.alloc (.cells #[.int .i32 0,.int .i64 0,.int .i64 0,.int .i64 0,.bool false,.bool false,.bool false] 38)):=(Below.refl _ _).alloc (Nat.le_refl _) _;have HC:=zH<|h.below hbl
 have c0:=h.c0;have l:=h.lt;clear h hbl;go_in;go_wp2_with fail;go_at_call 58;refine sM (zjr pc bs bg g N s _ HC.out) ?_;go_wp2_with fail;go_at_call 121;obtain⟨t,P,tie⟩:=HC.out.pr;refine sM (zlt bs bg g N s t x y _ P) ?_;rw[hin];clear P tie;go_wp2_with fail;exact bodyPost_ret (v:=.tuple #[zbR.agg,.int .i64 4]) (by simp[results,Tryz.results60,go_sem,zbR,Pn.plain]) rfl ⟨rfl,(Below.refl _ _).alloc (Nat.le_refl _) _⟩
theorem zry (pc bs bg g N:Nat) (s:Rs) (x y:Int) (w:World) (h:zbI w pc bs bg g N s) (hin:inG s.W s.H x y=true):
 Calls Tryz.prog 60 #[.pointer (some ⟨pc,0,none⟩),.int .i64 x,.int .i64 y] w λe w'=>e=.returned (.tuple #[(s.G x.toNat y.toNat).agg,.int .i64 0])/\Below w.heap.size w w':=by
 obtain⟨x0,x1,y0,y1⟩:=zu.1 hin;obtain⟨x,rfl⟩:=Int.eq_ofNat_of_zero_le x0;obtain⟨y,rfl⟩:=Int.eq_ofNat_of_zero_le y0;rw[Int.toNat_natCast,Int.toNat_natCast];have hbl:Below w.heap.size w (w.alloc (.cells #[.int .i32 0,.int .i64 0,.int .i64 0,.int .i64 0,.bool false,.bool false,.bool false] 38)):=(Below.refl _ _).alloc (Nat.le_refl _) _;have HC:=zH<|h.below hbl
 have c0:=h.c0;have l:=h.lt;clear h hbl;go_in;go_wp2_with fail;go_at_call 58;refine sM (zjr pc bs bg g N s _ HC.out) ?_;go_wp2_with fail;go_at_call 121;obtain⟨t,P,tie⟩:=HC.out.pr;refine sM (zlt bs bg g N s t x y _ P) ?_;rw[hin];go_wp2_with fail;go_at_call 122;refine(znC bs bg g N s t x y _ P (by omega) (by omega)).mono ?_;rintro e w2 ⟨rfl,hb2⟩;have hz:w.heap.size<w2.heap.size:=by have:=hb2.size;simp at this;omega
 have hc:=hb2.cells (b:=w.heap.size) (by simp);have hf:=hb2.marks (b:=w.heap.size) (by simp);have hB:=((Below.refl _ _).alloc (Nat.le_refl _) _).trans (hb2.mono (by simp));clear hb2 P tie;go_wp2_with fail;exact bodyPost_ret (v:=.tuple #[(s.G x y).agg,.int .i64 0]) (by simp[results,Tryz.results60,go_sem,hc]) rfl ⟨rfl,((zd.below (λi=>i=w.heap.size) hB).put7 w.heap.size 0 (s.G x y) (λ_=>rfl)).toBelow (Nat.le_refl _) (λi hi=>by omega)⟩
theorem zil {s:Rs} {t:Pt} (h:Tie s.B t):(decide (t.mode=0)&&decide (t.bn=0))=zat s:=by
 unfold zat;rcases h with⟨e,hm,h0⟩|⟨e,hm,h0⟩|⟨l,e,hm,h0,_⟩|⟨a,e,hm,h0,_⟩|⟨a,b,e,hm,h0,_⟩|⟨a,b,d,e,hm,h0,_⟩
 ·rw[e,hm,h0,ByteArray.toList_eq];rfl
 ·rw[e,hm,h0,ByteArray.toList_eq];rfl
 all_goals
  rw[e,hm,h0];have:∀(x:UInt8) (l:List UInt8),(⟨(x::l).toArray⟩:ByteArray).toList.isEmpty=false:=by
   intro x l;rw[ByteArray.toList_eq];rfl
  first
   |(rw[this];rfl)
   |(have q:=this a [b,d];rw[q];rfl)
   |(have q:=this a [b];rw[q];rfl)
   |(have q:=this a [];rw[q];rfl)
theorem zpl (w:World):
 Calls Tryz.prog 23 #[.pointer none] w λe w'=>e=.returned (zcs 0 0 0 0 false Pn.plain 0 0 false)/\Below w.heap.size w w':=by
 go_in;go_wp2_with (first|(go_at_call 58;refine sM (zf0 _) ?_));exact bodyPost_ret (v:=zcs 0 0 0 0 false Pn.plain 0 0 false) (by simp[results,Tryz.results23,go_sem,Pn.plain]) rfl ⟨rfl,(Below.refl _ _).alloc (Nat.le_refl _) _⟩
theorem zuY (pc bs bg g N:Nat) (s:Rs) (w:World) (h:zbI w pc bs bg g N s):
 Calls Tryz.prog 23 #[.pointer (some ⟨pc,0,none⟩)] w λe w'=>e=.returned (zcs s.W s.H s.x s.y s.pend s.pen s.top s.bot (zat s))/\Below w.heap.size w w':=by
 have hbl:Below w.heap.size w (w.alloc (.cells #[.int .i64 0,.int .i64 0,.int .i64 0,.int .i64 0,.bool false,.int .i64 0,.int .i64 0,.bool false,.bool false,.bool false,.int .i64 0,.int .i64 0,.bool false] 59)):=(Below.refl _ _).alloc (Nat.le_refl _) _;have HC:=zH<|h.below hbl
 have c0:=h.c0;have l:=h.lt;clear h hbl;go_in;go_wp2_with fail;go_at_call 58;refine sM (zjr pc bs bg g N s _ HC.out) ?_;go_wp2_with fail;go_at_call 63;obtain⟨t,P,tie⟩:=HC.out.pr;refine(zj7 bs bg g N s t _ P).mono ?_;rintro e w2 ⟨rfl,hb2⟩;rw[zil tie];have hz:w.heap.size<w2.heap.size:=by have:=hb2.size;simp at this;omega
 have hc:=hb2.cells (b:=w.heap.size) (by simp);have hf:=hb2.marks (b:=w.heap.size) (by simp);have hB:=((Below.refl _ _).alloc (Nat.le_refl _) _).trans (hb2.mono (by simp));clear hb2 P tie;go_wp2_with fail;exact bodyPost_ret (v:=zcs s.W s.H s.x s.y s.pend s.pen s.top s.bot (zat s)) (by simp[results,Tryz.results23,go_sem,hc]) rfl ⟨rfl,zd.toBelow ((((((((((((((zd.below (λi=>i=w.heap.size) hB).setCell ⟨w.heap.size,0,none⟩ _ (λ_=>rfl)).setCell ⟨w.heap.size,1,none⟩ _ (λ_=>rfl)).setCell ⟨w.heap.size,2,none⟩ _ (λ_=>rfl)).setCell ⟨w.heap.size,3,none⟩ _ (λ_=>rfl)).setCell ⟨w.heap.size,4,none⟩ _ (λ_=>rfl)).setCell ⟨w.heap.size,5,none⟩ _ (λ_=>rfl)).setCell ⟨w.heap.size,6,none⟩ _ (λ_=>rfl)).setCell ⟨w.heap.size,7,none⟩ _ (λ_=>rfl)).setCell ⟨w.heap.size,8,none⟩ _ (λ_=>rfl)).setCell ⟨w.heap.size,9,none⟩ _ (λ_=>rfl)).setCell ⟨w.heap.size,10,none⟩ _ (λ_=>rfl)).setCell ⟨w.heap.size,11,none⟩ _ (λ_=>rfl)).setCell ⟨w.heap.size,12,none⟩ _ (λ_=>rfl)) (Nat.le_refl _) (λi hi=>by omega)⟩
def Zd (W H:Nat):Wn:=⟨0,-1,0,0,true,W,H,λ_ _=>blk Pn.plain⟩
theorem znS (W H:Nat):zy [Zd W H] 0=[]:=by simp[zy,Zd]
theorem zr0 (W H:Nat):ZK [Zd W H] 0:=
 ⟨⟨λ_=>0,0,⟨Zd W H,[],rfl,rfl,rfl,by simp⟩,by simp,by simp[Zd],by simp⟩,by simp[Zd],by simp,by simp[Zd]⟩
def zed (p d sb sg sc b c g:Nat):Mm:=⟨λk=>if k=0 then p else if k=1 then d else if k=2 then sb else if k=3 then sg else sc,λ_=>b,λ_=>c,λ_=>g,λ_=>.slice none 0 0⟩
theorem zhw (W H a d sb sg sc b c g:Nat) (p:Pl) (i:Nat) (hp:p.ok [Zd W H]) (e:(zed a d sb sg sc b c g).blk p=some i):(p=.top 0/\i=a)\/(p=.top 1/\i=d)\/(p=.top 2/\i=sb)\/(p=.top 3/\i=sg)\/(p=.top 4/\i=sc)\/(p=.win 0 0/\i=b)\/(p=.win 0 1/\i=c)\/(p=.win 0 2/\i=g):=by
 cases p with
 |top k=>
  have hk:k<5:=hp;match k,hk with
  |0,_=>simp[Mm.blk,zed] at e;simp[e]
  |1,_=>simp[Mm.blk,zed] at e;simp[e]
  |2,_=>simp[Mm.blk,zed] at e;simp[e]
  |3,_=>simp[Mm.blk,zed] at e;simp[e]
  |4,_=>simp[Mm.blk,zed] at e;simp[e]
 |win n k=>
  obtain⟨hk,v,hv,hn⟩:=hp;obtain rfl:v=Zd W H:=by simpa using hv
  obtain rfl:0=n:=hn;match k,hk with
  |0,_=>simp[Mm.blk,zed] at e;simp[e]
  |1,_=>simp[Mm.blk,zed] at e;simp[e]
  |2,_=>simp[Mm.blk,zed] at e;simp[e]
  |3,_=>simp[Mm.blk,zed,Value.ownBlock] at e
theorem zwD (W H:Nat) (w:World) (w1:1<=W) (w2:W<=40) (h1:1<=H) (h2:H<=20) (_hw:2<=w.heap.size):
 Calls Tryz.prog 15 #[.int .i64 W,.int .i64 H] w λe w'=>∃M,e=.returned (.tuple #[.pointer (some ⟨M.t 0,0,none⟩),.int .i64 0])/\zI w' M [Zd W H] 0 (H*W) (zfh W H) zl2/\Below w.heap.size w w'/\∀i,M.own [Zd W H] i->w.heap.size<=i:=by
 have hs:ZC W H=true:=Zs.2 (by omega);have hnew:Hid (Calls Tryz.prog 47 #[.int .i64 W,.int .i64 H] w λe w'=>∃d sb sg sc b c g,e=.returned (.pointer (some ⟨d,0,none⟩))/\w'.heap[d]?=some (.cells #[.pointer (some ⟨b,0,none⟩),.int .i64 0,.pointer (some ⟨sb,0,none⟩)] 133)/\w'.heap[b]?=some (.cells (Z8 (Zd W H) none c (.slice none 0 0)) 131)/\Zi w' c g W H (H*W) (λ_ _=>blk Pn.plain)/\zh w' sb sg sc (H*W) (zfh W H) zl2/\Below w.heap.size w w'/\w.heap.size<=c/\w.heap.size<=g/\w.heap.size<=b/\c<b/\g<b/\b<sb/\b<sg/\b<sc/\sb<d/\sg<d/\sc<d):=by
  show Calls _ _ _ _ _;clear hs;go_in;go_wp2_with fail;go_at_call 108;refine(zrU W H _ w1 w2 h1 h2).mono ?_;rintro e wa ⟨c,g,rfl,G1,b1,lc,lg⟩;have HG1:=zH G1;have HB1:=zH b1;have gl:=G1.lt;have ggl:=G1.glt;clear G1 b1;go_wp2_with fail;have hbl:Below wa.heap.size wa (wa.alloc (.cells (Z8 (Zd W H) none c (.slice none 0 0)) 131)):=(Below.refl _ _).alloc (Nat.le_refl _) _;have HW:Hid ((wa.alloc (.cells (Z8 (Zd W H) none c (.slice none 0 0)) 131)).heap[wa.heap.size]?=some (.cells (Z8 (Zd W H) none c (.slice none 0 0)) 131)):=zf wa _;have HG2:=zH<|HG1.out.below hbl
  have HB2:=zH<|HB1.out.trans (hbl.mono HB1.out.size)
  have s2:(wa.alloc (.cells (Z8 (Zd W H) none c (.slice none 0 0)) 131)).heap.size=wa.heap.size+1:=by simp
  change Calls _ _ _ (wa.alloc (.cells (Z8 (Zd W H) none c (.slice none 0 0)) 131)) _;generalize wa.alloc (.cells (Z8 (Zd W H) none c (.slice none 0 0)) 131)=wb at *;clear HG1 hbl;go_at_call 106;refine(zvx W H _ w1 w2 h1 h2).mono ?_;rintro e wc ⟨sb,sg,sc,rfl,P1,b1,l1,l2,l3⟩;have HP:=zH P1;have p1:=P1.lt;have p2:=P1.gr.lt;have p3:=P1.gr.glt;have HB3:=zH b1;clear P1 b1;go_wp2_with fail;go_ret;have hz:=HB1.out.size;have hbk:Below wc.heap.size wc (wc.alloc (.cells #[.pointer (some ⟨wa.heap.size,0,none⟩),.int .i64 0,.pointer (some ⟨sb,0,none⟩)] 133)):=(Below.refl _ _).alloc (Nat.le_refl _) _;have hbc:=HB3.out.trans (hbk.mono HB3.out.size);refine⟨wc.heap.size,sb,sg,sc,wa.heap.size,c,g,rfl,zf wc _,by rw[hbc.block _ (by omega)];exact HW.out,HG2.out.below hbc,HP.out.below hbk,HB2.out.trans (hbc.mono HB2.out.size),lc,lg,by omega,gl,ggl,by omega,by omega,by omega,p1,p2,p3⟩
 go_in;go_wp2_with (first|(go_at_call 46;refine sM (zcg _ _ _) ?_));go_at_call 47;refine hnew.out.mono ?_;rintro e wa ⟨d,sb,sg,sc,b,c,g,rfl,q1,q2,q3,q4,q5,l1,l2,l3,l4,l5,l6,l7,l8,l9,l10,l11⟩;have H1:=zH q1;have H2:=zH q2;have H3:=zH q3;have H4:=zH q4;have H5:=zH q5;have dl:=(Array.getElem?_eq_some_iff.1 q1).1;clear q1 q2 q3 q4 q5;go_wp2_with fail;go_ret2;have hbk:Below wa.heap.size wa (wa.alloc (.cells #[.pointer (some ⟨d,0,none⟩)] 75)):=(Below.refl _ _).alloc (Nat.le_refl _) _;have hz:=H5.out.size;have hgn:=H3.out.ne;have hsn:=H4.out.gr.ne;have hs1:=H4.out.ne1;have hs2:=H4.out.ne2;refine⟨zed wa.heap.size d sb sg sc b c g,rfl,⟨zf wa _,?_,H4.out.below hbk,?_,?_,?_⟩,H5.out.trans (hbk.mono hz),?_⟩
 ·exact(hbk.block _ dl).trans H1.out
 ·intro v hv;obtain rfl:v=Zd W H:=by simpa using hv
  refine⟨?_,H3.out.below hbk,zep _ _,?_⟩
  ·exact(hbk.block _ (by show b<_;omega)).trans H2.out
  ·show World.ownsRow _ _ _ _ _ _ (Mm.ptrs _ (zy [Zd W H] 0));rw[znS];exact World.ownsRow_nil _ _ _ _
 ·have hb:∀(p:Pl) (i:Nat),p.ok [Zd W H]->(zed wa.heap.size d sb sg sc b c g).blk p=some i->(p=.top 0/\i=wa.heap.size)\/(p=.top 1/\i=d)\/(p=.top 2/\i=sb)\/(p=.top 3/\i=sg)\/(p=.top 4/\i=sc)\/(p=.win 0 0/\i=b)\/(p=.win 0 1/\i=c)\/(p=.win 0 2/\i=g):=zhw _ _ _ _ _ _ _ _ _ _;intro p q i hp hq e1 e2;rcases hb p i hp e1 with⟨rfl,r1⟩|⟨rfl,r1⟩|⟨rfl,r1⟩|⟨rfl,r1⟩|⟨rfl,r1⟩|⟨rfl,r1⟩|⟨rfl,r1⟩|⟨rfl,r1⟩ <;>
   rcases hb q i hq e2 with⟨rfl,r2⟩|⟨rfl,r2⟩|⟨rfl,r2⟩|⟨rfl,r2⟩|⟨rfl,r2⟩|⟨rfl,r2⟩|⟨rfl,r2⟩|⟨rfl,r2⟩<;>first|rfl|(exfalso;omega)
 ·rintro i ⟨p,hp,e⟩;rcases zhw _ _ _ _ _ _ _ _ _ _ p i hp e with⟨_,r1⟩|⟨_,r1⟩|⟨_,r1⟩|⟨_,r1⟩|⟨_,r1⟩|⟨_,r1⟩|⟨_,r1⟩|⟨_,r1⟩<;>omega
 ·rintro i ⟨p,hp,e⟩;rcases zhw _ _ _ _ _ _ _ _ _ _ p i hp e with⟨_,r1⟩|⟨_,r1⟩|⟨_,r1⟩|⟨_,r1⟩|⟨_,r1⟩|⟨_,r1⟩|⟨_,r1⟩|⟨_,r1⟩<;>omega
theorem zt4 (x y:Int) (w:World) (hs:ZC x y=false):
 Calls Tryz.prog 15 #[.int .i64 x,.int .i64 y] w λe w'=>e=.returned (.tuple #[.pointer none,.int .i64 3])/\w'=w:=by
 go_in;go_wp2_with (first|(go_at_call 46;refine sM (zcg _ _ _) ?_));go_ret2;exact⟨rfl,rfl⟩
theorem zjE:(Tryz.prog.info? 111).map (λi=>(i.zero,i.size,i.bytes))=some (some (.pointer none),1,8):=by kernel_rfl
theorem zee {ops:Array Oper} {rest:List Oper} {o:Oper} {a:Act} {Q:Exit->Act->World->Prop} (w:World) (hgd:o.guard=none) (s x:Operand)
 (ho:o.op=.call {callee:=.builtin .append,args:=#[s,x],argTypes:=#[129,129]}) (v:Value) (ks:List Value) (u:Value) (k:Nat) (hk:ks.length=k) (hs:a.eval s=v)
 (hown:w.ownsRow 2 111 1 v k ks) (b:Nat) (hx:a.eval x=.slice (some ⟨b,0,none⟩) 1 1) (hb:w.heap[b]?=some (.cells #[u] 111)) (hu:u.oneCell'=true) (hL:k<=1000) (hbase:2<=w.heap.size)
 (h:∀g cap w',w'.ownsRow 2 111 1 (.slice (some ⟨g,0,none⟩) (k+1) cap) (k+1) (ks ++ [u])->w.grownBy w' v.ownBlock->(v.ownBlock=some g\/g=w.heap.size)->g<w'.heap.size->wpList Tryz.prog ops Q rest (a.put o.dst (.slice (some ⟨g,0,none⟩) (k+1) cap)) w'):
 wpList Tryz.prog ops Q (o::rest) a w:=by
 obtain⟨ti,i1,i2,i3,i4⟩:=info_parts zjE;exact wpList_append_lies w hgd s x 129 ho 2 111 ti _ 1 8 Tryz.underlying129 i1 i2 i3 i4 rfl (by decide) v k ks hs hown ⟨b,0,none⟩ 1 1 [u] hx rfl (World.news_of_block hb) (by simpa using hu) (by decide) (by unfold maxLen;omega) (by omega) hbase w.heap.size rfl h
theorem zbf {w:World} {b o:Nat} {C:Array Value} {t:TypeId} (h:w.heap[b]?=some (.cells C t)) (v:Value):(w.setCell ⟨b,o,none⟩ v).heap[b]?=some (.cells (C.setIfInBounds o v) t):=zg h o v
theorem zpJ (u v:Wn) (bu bv cu cv:Nat) (pu pv:Option Addr) (su sv:Value) (ks:List Value) (w:World) (hU:w.heap[bu]?=some (.cells (Z8 u pu cu su) 131)) (hV:w.heap[bv]?=some (.cells (Z8 v pv cv sv) 131)) (hrow:w.ownsRow 2 111 1 sv ks.length ks) (hne:bu≠bv) (hsu:sv.ownBlock≠some bu) (hsv:sv.ownBlock≠some bv) (hk:ks.length<=100) (_h2:2<=w.heap.size):
 Calls Tryz.prog 150 #[.pointer (some ⟨bu,0,none⟩),.pointer (some ⟨bv,0,none⟩)] w λe w'=>∃g cap,e=.returned (.tuple #[])/\w'.heap[bu]?=some (.cells (Z8 u (some ⟨bv,0,none⟩) cu su) 131)/\w'.heap[bv]?=some (.cells (Z8 v pv cv (.slice (some ⟨g,0,none⟩) (ks.length+1) cap)) 131) ∧
  w'.ownsRow 2 111 1 (.slice (some ⟨g,0,none⟩) (ks.length+1) cap) (ks.length+1) (ks ++ [.pointer (some ⟨bu,0,none⟩)])/\zd (λi=>i=bu\/i=bv\/sv.ownBlock=some i) w w'/\(sv.ownBlock=some g\/w.heap.size<=g):=by
 have lu:=(Array.getElem?_eq_some_iff.1 hU).1;have lv:=(Array.getElem?_eq_some_iff.1 hV).1;have c1:w.cell? ⟨bu,1,none⟩=some (.pointer pu):=za hU 1;have z1:=ze hU;have HU:=zH hU;have HV:=zH hV;have Hrow:=zH hrow;clear hU hV hrow;have c6:(w.setCell ⟨bu,1,none⟩ (.pointer (some ⟨bv,0,none⟩))).cell? ⟨bv,6,none⟩=some sv:=by
  rw[World.cell?_setCell_other _ _ _ _ (by intro e;injection e with e1;exact hne e1)];exact za HV.out 6
 have Hr1:Hid ((w.setCell ⟨bu,1,none⟩ (.pointer (some ⟨bv,0,none⟩))).ownsRow 2 111 1 sv ks.length ks):=zx Hrow.out (λi hi=>Below.heap_setCell _ _ _ _ (λe=>hsu (by rw[hi,e])));have K1:zd (λi=>i=bu\/i=bv\/sv.ownBlock=some i) w (w.setCell ⟨bu,1,none⟩ (.pointer (some ⟨bv,0,none⟩))):=(zd.refl _ w).setCell _ _ (λ_=>Or.inl rfl);have U1:(w.setCell ⟨bu,1,none⟩ (.pointer (some ⟨bv,0,none⟩))).heap[bu]?=some (.cells (Z8 u (some ⟨bv,0,none⟩) cu su) 131):=zbf HU.out _;have V1:(w.setCell ⟨bu,1,none⟩ (.pointer (some ⟨bv,0,none⟩))).heap[bv]?=some (.cells (Z8 v pv cv sv) 131):=(Below.heap_setCell _ _ _ _ (λe=>hne e.symm)).trans HV.out;have s1:(w.setCell ⟨bu,1,none⟩ (.pointer (some ⟨bv,0,none⟩))).heap.size=w.heap.size:=zbA _ _ _;go_in;go_wp2_with ((at_builtin;refine zee _ (by rfl) (.tmp 12) (.tmp 14) (by rfl) sv ks (.pointer (some ⟨bu,0,none⟩)) ks.length rfl (by rfl) (zx Hr1.out (λi hi=>Below.heap_alloc _ _ _ (Zw Hr1.out hi).1)) _ (by rfl) (zae _ _ _ (by simp)) rfl (by omega) (by first|(simp;omega)|simp) ?_;intro g7 cap7 w7 hr7 hg7 ho7 hl7;have V7:=(hg7.block _ (by simp;omega) (λe=>hsv e.symm)).trans ((Below.heap_alloc _ _ _ (by omega)).trans V1);have U7:=(hg7.block _ (by simp;omega) (λe=>hsu e.symm)).trans ((Below.heap_alloc _ _ _ (by omega)).trans U1);have c7:w7.cell? ⟨bv,6,none⟩=some sv:=za V7 6;have f7:=ze V7 6));go_end0;have hne7:g7≠bv:=by
  rcases ho7 with h|h
  ·intro e;rw[e] at h;exact hsv h
  ·simp at h;omega
 refine⟨g7,cap7,rfl,?_,zbf V7 _,?_,?_,?_⟩
 ·exact(Below.heap_setCell _ _ _ _ hne).trans U7
 ·exact zx hr7 (λi hi=>Below.heap_setCell _ _ _ _ (λe=>hne7 (by simp[Value.ownBlock] at hi;have e':i=bv:=e;omega)))
 ·refine zd.setCell ?_ _ _ (λ_=>Or.inr (Or.inl rfl));refine K1.trans ((zd.refl (λi=>i=bu\/i=bv\/sv.ownBlock=some i) _).alloc _ |>.trans ⟨hg7.os,hg7.tape,hg7.output,hg7.size,λk hk hF=>hg7.block k hk (λe=>hF (Or.inr (Or.inr e.symm)))⟩ (λ_ _ h=>h)) (λ_ _ h=>h)
 ·rcases ho7 with h|h
  ·exact Or.inl h
  ·simp at h;exact Or.inr (by omega)
def Mm.more (M:Mm) (n p:Int) (b c g:Nat) (sp:Value):Mm:=⟨M.t,Zo M.b n b,Zo M.c n c,Zo M.g n g,Zo (Zo M.s p sp) n (.slice none 0 0)⟩
theorem znU {M:Mm} {L:List Wn} {last:Int} {N:Nat} {s:Rs} {t:Pt} {w wd:World} (ok:ZK L last) (h:zI w M L last N s t) {v:Wn} (hv:v∈L) (x y:Int) (W H c g nb gs cap:Nat)
 (lc:w.heap.size<=c) (lg:w.heap.size<=g) (c1:c<nb) (c2:g<nb) (c3:c≠g)
 (hnb:wd.heap[nb]?=some (.cells (Z8 ⟨last+1,v.n,x,y,true,W,H,λ_ _=>blk Pn.plain⟩ (some ⟨M.b v.n,0,none⟩) c (.slice none 0 0)) 131)) (hgr:Zi wd c g W H (H*W) (λ_ _=>blk Pn.plain))
 (hd:wd.heap[M.t 1]?=some (.cells #[M.ptr 0,.int .i64 (last+1),.pointer (some ⟨M.t 2,0,none⟩)] 133))
 (hbv:wd.heap[M.b v.n]?=some (.cells (Z8 v (M.pp v.par) (M.c v.n) (.slice (some ⟨gs,0,none⟩) ((M.ptrs (zy L v.n)).length+1) cap)) 131))
 (hrow:wd.ownsRow 2 111 1 (.slice (some ⟨gs,0,none⟩) ((M.ptrs (zy L v.n)).length+1) cap) ((M.ptrs (zy L v.n)).length+1) (M.ptrs (zy L v.n) ++ [.pointer (some ⟨nb,0,none⟩)]))
 (hgs:(M.s v.n).ownBlock=some gs\/nb<gs)
 (hkeep:∀i,M.own L i->i≠M.t 1->i≠M.b v.n->(M.s v.n).ownBlock≠some i->wd.heap[i]?=w.heap[i]?):
 zI wd (M.more (last+1) v.n nb c g (.slice (some ⟨gs,0,none⟩) ((M.ptrs (zy L v.n)).length+1) cap)) (L ++ [⟨last+1,v.n,x,y,true,W,H,λ_ _=>blk Pn.plain⟩]) (last+1) N s t ∧
 ∀i,(M.more (last+1) v.n nb c g (.slice (some ⟨gs,0,none⟩) ((M.ptrs (zy L v.n)).length+1) cap)).own (L ++ [⟨last+1,v.n,x,y,true,W,H,λ_ _=>blk Pn.plain⟩]) i->M.own L i\/w.heap.size<=i:=by
 obtain⟨rk,K,T⟩:=ok.tree;obtain⟨nw,hnw⟩:∃nw:Wn,nw=⟨last+1,v.n,x,y,true,W,H,λ_ _=>blk Pn.plain⟩:=⟨_,rfl⟩;have hnn:nw.n=last+1:=by rw[hnw]
 have hnp:nw.par=v.n:=by rw[hnw]
 rw[←hnw] at hnb ⊢;have hle:∀u∈L,u.n≠last+1:=λu hu=>by have:=ok.le u hu;omega
 have hpl:∀u∈L,u.par≠last+1:=λu hu e=>by
  have h0:=T.pos hv;have h1:=ok.le v hv;obtain⟨⟨q,hq,hqn⟩,_⟩:=T.up u hu (by omega);exact hle q hq (by omega)
 have h0l:(0:Int)≠last+1:=by have:=T.pos hv;have:=ok.le v hv;omega
 have hvn:=hle v hv;have hold:∀p:Pl,p.ok (L ++ [nw])->¬((∃k,p=.win (last+1) k)\/(p=.win v.n 3/\nb<gs))->p.ok L/\(M.more (last+1) v.n nb c g (.slice (some ⟨gs,0,none⟩) ((M.ptrs (zy L v.n)).length+1) cap)).blk p=M.blk p:=by
  intro p hp hf;cases p with
  |top k=>exact⟨hp,rfl⟩
  |win n k=>
   obtain⟨hk,u,hu,hun⟩:=hp;have hn:n≠last+1:=λe=>hf (.inl ⟨k,by rw[e]⟩);have huL:u∈L:=by
    rcases List.mem_append.1 hu with hu|hu
    ·exact hu
    ·obtain rfl:u=nw:=by simpa using hu
     exact absurd (hun.symm.trans hnn) hn
   refine⟨⟨hk,u,huL,hun⟩,?_⟩;match k,hk with
   |0,_=>simp[Mm.blk,Mm.more,zn _ _ hn]
   |1,_=>simp[Mm.blk,Mm.more,zn _ _ hn]
   |2,_=>simp[Mm.blk,Mm.more,zn _ _ hn]
   |3,_=>
    show(Zo (Zo M.s v.n _) (last+1) _ n).ownBlock=(M.s n).ownBlock;rw[zn _ _ hn];by_cases e:n=v.n
    ·subst e;rw[zD];have hng:¬nb<gs:=λhlt=>hf (.inr ⟨rfl,hlt⟩);rcases hgs with h1|h1
     ·exact h1.symm
     ·exact absurd h1 hng
    ·rw[zn _ _ e]
 have hfr:∀(p:Pl) (i:Nat),p.ok (L ++ [nw])->((∃k,p=.win (last+1) k)\/(p=.win v.n 3/\nb<gs))->(M.more (last+1) v.n nb c g (.slice (some ⟨gs,0,none⟩) ((M.ptrs (zy L v.n)).length+1) cap)).blk p=some i->w.heap.size<=i/\((p=.win (last+1) 0/\i=nb)\/(p=.win (last+1) 1/\i=c)\/(p=.win (last+1) 2/\i=g)\/(p=.win v.n 3/\i=gs/\nb<gs)):=by
  rintro p i hp (⟨k,rfl⟩|⟨rfl,hlt⟩) e
  ·have hk:=hp.1;match k,hk with
   |0,_=>
     obtain rfl:nb=i:=by simpa[Mm.blk,Mm.more,zD] using e
     exact⟨by omega,.inl ⟨rfl,rfl⟩⟩
   |1,_=>
     obtain rfl:c=i:=by simpa[Mm.blk,Mm.more,zD] using e
     exact⟨by omega,.inr (.inl ⟨rfl,rfl⟩)⟩
   |2,_=>
     obtain rfl:g=i:=by simpa[Mm.blk,Mm.more,zD] using e
     exact⟨by omega,.inr (.inr (.inl ⟨rfl,rfl⟩))⟩
   |3,_=>simp[Mm.blk,Mm.more,zD,Value.ownBlock] at e
  ·obtain rfl:gs=i:=by
    have:(Zo (Zo M.s v.n (.slice (some ⟨gs,0,none⟩) ((M.ptrs (zy L v.n)).length+1) cap)) (last+1) (.slice none 0 0) v.n).ownBlock=some i:=e;rw[zn _ _ hvn,zD] at this;simpa[Value.ownBlock] using this
   exact⟨by omega,.inr (.inr (.inr ⟨rfl,rfl,hlt⟩))⟩
 have hown:∀i,(M.more (last+1) v.n nb c g (.slice (some ⟨gs,0,none⟩) ((M.ptrs (zy L v.n)).length+1) cap)).own (L ++ [nw]) i->M.own L i\/w.heap.size<=i:=
  λi hi=>zjG w.heap.size _ hold (λp i hp hf e=>(hfr p i hp hf e).1) hi
 have hinj:=zjF h.inj w.heap.size (λi hi=>h.lt hi) _ hold (λp i hp hf e=>(hfr p i hp hf e).1) (λp q i hp hq fp fq e1 e2=>by
  rcases(hfr p i hp fp e1).2 with⟨rfl,r1⟩|⟨rfl,r1⟩|⟨rfl,r1⟩|⟨rfl,r1,r3⟩ <;>
   rcases(hfr q i hq fq e2).2 with⟨rfl,r2⟩|⟨rfl,r2⟩|⟨rfl,r2⟩|⟨rfl,r2,r4⟩<;>first|rfl|(exfalso;omega))
 refine⟨⟨?_,?_,?_,?_,hinj,?_⟩,hown⟩
 ·have hne:=h.ne (p:=.top 0) (q:=.top 1) (by show 0<5;omega) (by show 1<5;omega) rfl rfl (by simp);have hn2:=h.ne (p:=.top 0) (q:=.win v.n 0) (by show 0<5;omega) ⟨by omega,v,hv,rfl⟩ rfl rfl (by simp);exact(hkeep _ (Zg M L 0 (by omega)) hne hn2 (λe=>by have:=h.inj (.top 0) (.win v.n 3) (M.t 0) (by show 0<5;omega) ⟨by omega,v,hv,rfl⟩ rfl e;simp at this)).trans h.b0
 ·rw[show(M.more (last+1) v.n nb c g (.slice (some ⟨gs,0,none⟩) ((M.ptrs (zy L v.n)).length+1) cap)).ptr 0=M.ptr 0 by simp[Mm.ptr,Mm.more,zn _ _ h0l]];exact hd
 ·have hk:∀k,2<=k->k<5->wd.heap[M.t k]?=w.heap[M.t k]?:=λk k2 k5=>by
   have hne:=h.ne (p:=.top k) (q:=.top 1) k5 (by show 1<5;omega) rfl rfl (by simp;omega);have hn2:=h.ne (p:=.top k) (q:=.win v.n 0) k5 ⟨by omega,v,hv,rfl⟩ rfl rfl (by simp);exact hkeep _ (Zg M L k k5) hne hn2 (λe=>by have:=h.inj (.top k) (.win v.n 3) (M.t k) k5 ⟨by omega,v,hv,rfl⟩ rfl e;simp at this)
  exact h.scr.same (hk 2 (by omega) (by omega)) (hk 3 (by omega) (by omega)) (hk 4 (by omega) (by omega))
 ·intro u hu;rw[zew,hnp];have hptr:∀l:List Wn,(∀a∈l,a∈L)->(M.more (last+1) v.n nb c g (.slice (some ⟨gs,0,none⟩) ((M.ptrs (zy L v.n)).length+1) cap)).ptrs l=M.ptrs l:=λl hl=>by
   refine List.map_congr_left λa ha=>?_;simp[Mm.ptr,Mm.more,zn _ _ (hle a (hl a ha))]
  have hkL:∀n,∀a∈zy L n,a∈L:=λn a ha=>(Ze.1 ha).1;rcases List.mem_append.1 hu with hu|hu
  ·have hun:=hle u hu;have hpp:(M.more (last+1) v.n nb c g (.slice (some ⟨gs,0,none⟩) ((M.ptrs (zy L v.n)).length+1) cap)).pp u.par=M.pp u.par:=by
    simp[Mm.pp,Mm.more,zn _ _ (hpl u hu)]
   by_cases e:u.n=v.n
   ·obtain rfl:=zak T.nd hu hv e;rw[if_pos rfl];rw[show(M.more (last+1) u.n nb c g (.slice (some ⟨gs,0,none⟩) ((M.ptrs (zy L u.n)).length+1) cap)).ptrs (zy L u.n ++ [nw])=M.ptrs (zy L u.n) ++ [.pointer (some ⟨nb,0,none⟩)] by
     have:=hptr (zy L u.n) (hkL _);unfold Mm.ptrs at this ⊢;rw[List.map_append,this];simp[Mm.ptr,Mm.more,hnn,zD]]
    rw[hpp];have hw:=h.win u hu;have k1:wd.heap[M.c u.n]?=w.heap[M.c u.n]?:=by
     have n1:=h.ne (p:=.win u.n 1) (q:=.top 1) ⟨by omega,u,hu,rfl⟩ (by show 1<5;omega) rfl rfl (by simp);have n2:=h.ne (p:=.win u.n 1) (q:=.win u.n 0) ⟨by omega,u,hu,rfl⟩ ⟨by omega,u,hu,rfl⟩ rfl rfl (by simp);exact hkeep _ (zpI M hu) n1 n2 (λe=>by have:=h.inj (.win u.n 1) (.win u.n 3) _ ⟨by omega,u,hu,rfl⟩ ⟨by omega,u,hu,rfl⟩ rfl e;simp at this)
    have k2:wd.heap[M.g u.n]?=w.heap[M.g u.n]?:=by
     have n1:=h.ne (p:=.win u.n 2) (q:=.top 1) ⟨by omega,u,hu,rfl⟩ (by show 1<5;omega) rfl rfl (by simp);have n2:=h.ne (p:=.win u.n 2) (q:=.win u.n 0) ⟨by omega,u,hu,rfl⟩ ⟨by omega,u,hu,rfl⟩ rfl rfl (by simp);exact hkeep _ (znd M hu) n1 n2 (λe=>by have:=h.inj (.win u.n 2) (.win u.n 3) _ ⟨by omega,u,hu,rfl⟩ ⟨by omega,u,hu,rfl⟩ rfl e;simp at this)
    have q1:(M.more (last+1) u.n nb c g (.slice (some ⟨gs,0,none⟩) ((M.ptrs (zy L u.n)).length+1) cap)).b u.n=M.b u.n:=zn _ _ hun;have q2:(M.more (last+1) u.n nb c g (.slice (some ⟨gs,0,none⟩) ((M.ptrs (zy L u.n)).length+1) cap)).c u.n=M.c u.n:=zn _ _ hun;have q3:(M.more (last+1) u.n nb c g (.slice (some ⟨gs,0,none⟩) ((M.ptrs (zy L u.n)).length+1) cap)).g u.n=M.g u.n:=zn _ _ hun;have q4:(M.more (last+1) u.n nb c g (.slice (some ⟨gs,0,none⟩) ((M.ptrs (zy L u.n)).length+1) cap)).s u.n=.slice (some ⟨gs,0,none⟩) ((M.ptrs (zy L u.n)).length+1) cap:=(zn _ _ hun).trans (zD _ _ _);rw[q1,q2,q3,q4];exact⟨hbv,hw.gr.same k1 k2,hw.wf,by simpa using hrow⟩
   ·rw[if_neg (λe'=>e e'.symm),List.append_nil,hptr _ (hkL _),hpp];have hw:=h.win u hu;have kk:∀k i,k<4->M.blk (.win u.n k)=some i->wd.heap[i]?=w.heap[i]?:=λk i hk hb=>by
     have n1:=h.ne (p:=.win u.n k) (q:=.top 1) ⟨hk,u,hu,rfl⟩ (by show 1<5;omega) hb rfl (by simp);have n2:=h.ne (p:=.win u.n k) (q:=.win v.n 0) ⟨hk,u,hu,rfl⟩ ⟨by omega,v,hv,rfl⟩ hb rfl (by simp[e]);exact hkeep i ⟨.win u.n k,⟨hk,u,hu,rfl⟩,hb⟩ n1 n2 (λe'=>by have:=h.inj (.win u.n k) (.win v.n 3) _ ⟨hk,u,hu,rfl⟩ ⟨by omega,v,hv,rfl⟩ hb e';simp[e] at this)
    have q1:(M.more (last+1) v.n nb c g (.slice (some ⟨gs,0,none⟩) ((M.ptrs (zy L v.n)).length+1) cap)).b u.n=M.b u.n:=zn _ _ hun;have q2:(M.more (last+1) v.n nb c g (.slice (some ⟨gs,0,none⟩) ((M.ptrs (zy L v.n)).length+1) cap)).c u.n=M.c u.n:=zn _ _ hun;have q3:(M.more (last+1) v.n nb c g (.slice (some ⟨gs,0,none⟩) ((M.ptrs (zy L v.n)).length+1) cap)).g u.n=M.g u.n:=zn _ _ hun;have q4:(M.more (last+1) v.n nb c g (.slice (some ⟨gs,0,none⟩) ((M.ptrs (zy L v.n)).length+1) cap)).s u.n=M.s u.n:=(zn _ _ hun).trans (zn _ _ e);rw[q1,q2,q3,q4];exact hw.same (kk 0 _ (by omega) rfl) (kk 1 _ (by omega) rfl) (kk 2 _ (by omega) rfl) (λi hi=>kk 3 i (by omega) hi)
  ·obtain rfl:u=nw:=by simpa using hu
   have hnk:zy L u.n=[]:=by
    refine List.eq_nil_iff_forall_not_mem.2 (λa ha=>?_);obtain⟨haL,hap⟩:=Ze.1 ha;exact hpl a haL (hap.trans hnn)
   rw[hnk,if_neg (by omega),hnn,hnp];have q1:(M.more (last+1) v.n nb c g (.slice (some ⟨gs,0,none⟩) ((M.ptrs (zy L v.n)).length+1) cap)).b (last+1)=nb:=zD _ _ _;have q2:(M.more (last+1) v.n nb c g (.slice (some ⟨gs,0,none⟩) ((M.ptrs (zy L v.n)).length+1) cap)).c (last+1)=c:=zD _ _ _;have q3:(M.more (last+1) v.n nb c g (.slice (some ⟨gs,0,none⟩) ((M.ptrs (zy L v.n)).length+1) cap)).g (last+1)=g:=zD _ _ _;have q4:(M.more (last+1) v.n nb c g (.slice (some ⟨gs,0,none⟩) ((M.ptrs (zy L v.n)).length+1) cap)).s (last+1)=.slice none 0 0:=zD _ _ _;have q5:(M.more (last+1) v.n nb c g (.slice (some ⟨gs,0,none⟩) ((M.ptrs (zy L v.n)).length+1) cap)).pp v.n=some ⟨M.b v.n,0,none⟩:=by
    have:=T.pos hv;simp[Mm.pp,Mm.more,zn _ _ hvn];omega
   rw[q1,q2,q3,q4,q5];subst hnw;exact⟨hnb,hgr,zep _ _,World.ownsRow_nil _ _ _ _⟩
 ·intro i hi;rcases hown i hi with h1|h1
  ·exact h.two i h1
  ·have:=h.two _ (Zg M L 0 (by omega));have:=h.lt (Zg M L 0 (by omega));omega
theorem zr1 {M:Mm} {L:List Wn} {last:Int} {N:Nat} {s:Rs} {t:Pt} (ok:ZK L last) (w:World) (h:zI w M L last N s t) (v:Wn) (hv:v∈L) (x y:Int) (W H:Nat) (w1:1<=W) (w2:W<=40) (h1:1<=H) (h2:H<=20) (hlast:last<9223372036854775807):
 Calls Tryz.prog 110 #[.pointer (some ⟨M.t 1,0,none⟩),M.ptr v.n,.int .i64 x,.int .i64 y,.int .i64 W,.int .i64 H] w λe w'=>∃M',e=.returned (.int .i64 (last+1))/\zI w' M' (L ++ [⟨last+1,v.n,x,y,true,W,H,λ_ _=>blk Pn.plain⟩]) (last+1) N s t/\M'.t=M.t/\zd (M.own L) w w'/\∀i,M'.own (L ++ [⟨last+1,v.n,x,y,true,W,H,λ_ _=>blk Pn.plain⟩]) i->M.own L i\/w.heap.size<=i:=by
 have HD:=zH h;have Hok:=zH ok;have d1:=h.d1;have z1:=ze h.b1;have dl:=h.lt (Zg M L 1 (by omega));have hl0:-1<=last:=by obtain⟨rk,K,T⟩:=ok.tree;have:=T.pos hv;have:=ok.le v hv;omega
 clear h ok;have K1:zd (M.own L) w (w.setCell ⟨M.t 1,1,none⟩ (.int .i64 (last+1))):=(zd.refl _ w).setCell _ _ (λ_=>Zg M L 1 (by omega));have B1:(w.setCell ⟨M.t 1,1,none⟩ (.int .i64 (last+1))).heap[M.t 1]?=some (.cells #[M.ptr 0,.int .i64 (last+1),.pointer (some ⟨M.t 2,0,none⟩)] 133):=zbf HD.out.b1 _;have O1:∀i,i≠M.t 1->(w.setCell ⟨M.t 1,1,none⟩ (.int .i64 (last+1))).heap[i]?=w.heap[i]?:=λi hi=>Below.heap_setCell _ _ _ _ hi;have e1:(w.setCell ⟨M.t 1,1,none⟩ (.int .i64 (last+1))).cell? ⟨M.t 1,1,none⟩=some (.int .i64 (last+1)):=za B1 1;have s1:(w.setCell ⟨M.t 1,1,none⟩ (.int .i64 (last+1))).heap.size=w.heap.size:=zbA _ _ _;go_in;go_wp2_with fail;generalize w.setCell ⟨M.t 1,1,none⟩ (.int .i64 (last+1))=wa at *;have dl':M.t 1<wa.heap.size:=by omega
 go_region_with (first|(go_at_call 108;refine(zrU W H _ w1 w2 h1 h2).mono ?_;rintro e wb ⟨c,g,rfl,G1,b1,lc,lg⟩;have hB:Below wa.heap.size wa wb:=⟨b1.os,b1.tape,b1.output,b1.size,b1.block⟩;have e2:=(hB.cell (p:=⟨M.t 1,1,none⟩) dl').trans e1;  have HG:=zH<|G1;have gl:=G1.lt;have ggl:=G1.glt;have lc':wa.heap.size<=c:=lc;have lg':wa.heap.size<=g:=lg;clear G1 b1));all_goals
  go_wp2_with fail;have hsz:=hB.size;have hbk:Below wb.heap.size wb (wb.alloc (.cells (Z8 ⟨last+1,v.n,x,y,true,W,H,λ_ _=>blk Pn.plain⟩ none c (.slice none 0 0)) 131)):=(Below.refl _ _).alloc (Nat.le_refl _) _;have NB:(wb.alloc (.cells (Z8 ⟨last+1,v.n,x,y,true,W,H,λ_ _=>blk Pn.plain⟩ none c (.slice none 0 0)) 131)).heap[wb.heap.size]?=some (.cells (Z8 ⟨last+1,v.n,x,y,true,W,H,λ_ _=>blk Pn.plain⟩ none c (.slice none 0 0)) 131):=zf wb _;have sc:(wb.alloc (.cells (Z8 ⟨last+1,v.n,x,y,true,W,H,λ_ _=>blk Pn.plain⟩ none c (.slice none 0 0)) 131)).heap.size=wb.heap.size+1:=by simp
  change Calls _ _ _ (wb.alloc (.cells (Z8 ⟨last+1,v.n,x,y,true,W,H,λ_ _=>blk Pn.plain⟩ none c (.slice none 0 0)) 131)) _;generalize wb.alloc (.cells (Z8 ⟨last+1,v.n,x,y,true,W,H,λ_ _=>blk Pn.plain⟩ none c (.slice none 0 0)) 131)=wc at *;have hBc:=hB.trans (hbk.mono hsz);have OLD:∀i,M.own L i->i≠M.t 1->wc.heap[i]?=w.heap[i]?:=λi hi hne=>(hBc.block i (by have:=HD.out.lt hi;omega)).trans (O1 i hne);have hd:=(hBc.block _ dl').trans B1;have HG2:=zH<|HG.out.below hbk
  have hcg:=HG.out.ne;have hwv:=HD.out.win v hv;have bvl:=hwv.lt;have nb1:=HD.out.ne (p:=.win v.n 0) (q:=.top 1) ⟨by omega,v,hv,rfl⟩ (by show 1<5;omega) rfl rfl (by simp);have V1:=(OLD _ (zgA M hv) nb1).trans hwv.blk;have R1:=zx hwv.row (λi hi=>OLD i (zht M hv hi) (HD.out.ne (p:=.win v.n 3) (q:=.top 1) ⟨by omega,v,hv,rfl⟩ (by show 1<5;omega) hi rfl (by simp)));have hsl:∀i,(M.s v.n).ownBlock=some i->i<w.heap.size:=λi hi=>HD.out.lt (zht M hv hi);have hs0:(M.s v.n).ownBlock≠some (M.b v.n):=λe=>by have:=HD.out.inj (.win v.n 3) (.win v.n 0) _ ⟨by omega,v,hv,rfl⟩ ⟨by omega,v,hv,rfl⟩ e rfl;simp at this
  have hkl:(M.ptrs (zy L v.n)).length<=100:=by rw[M.ptrs_len];have:=Hok.out.len;have:(zy L v.n).length<=L.length:=List.length_filter_le _ _;omega
  go_at_call 150;refine(zpJ ⟨last+1,v.n,x,y,true,W,H,λ_ _=>blk Pn.plain⟩ v wb.heap.size (M.b v.n) c (M.c v.n) none (M.pp v.par) (.slice none 0 0) (M.s v.n) (M.ptrs (zy L v.n)) wc NB V1 R1 (by omega) (λe=>by have:=hsl _ e;omega) hs0 hkl (by omega)).mono ?_;rintro e wd ⟨gs,cap,rfl,U5,V5,R5,K5,hgs⟩;have cn:wd.cell? ⟨wb.heap.size,0,none⟩=some (.int .i64 (last+1)):=za U5 0;have gsl:(M.s v.n).ownBlock=some gs\/wb.heap.size<gs:=hgs.imp id (λh=>by omega);have HK:Hid (∀i,M.own L i->i≠M.t 1->i≠M.b v.n->(M.s v.n).ownBlock≠some i->wd.heap[i]?=w.heap[i]?):=λi hi n1 n2 n3=>(K5.block i (by have:=HD.out.lt hi;omega) (by rintro(e|e|e);(have:=HD.out.lt hi;omega);exact n2 e;exact n3 e)).trans (OLD i hi n1);have hd5:=(K5.block _ (by omega) (by rintro(e|e|e);omega;exact nb1 e.symm;exact HD.out.ne (p:=.win v.n 3) (q:=.top 1) ⟨by omega,v,hv,rfl⟩ (by show 1<5;omega) e rfl (by simp) rfl)).trans hd;have hc5:=HG2.out.same (K5.block _ (by omega) (by rintro(e|e|e);omega;omega;(have:=hsl _ e;omega))) (K5.block _ (by omega) (by rintro(e|e|e);omega;omega;(have:=hsl _ e;omega)));obtain⟨F1,F2⟩:=znU Hok.out HD.out hv x y W H c g wb.heap.size gs cap (by omega) (by omega) gl ggl hcg U5 hc5 hd5 V5 R5 gsl HK.out;have HF1:=zH F1;have HF2:=zH F2;have KK:=(K1.trans (zd.below (M.own L) hBc) (λ_ _ h=>h)).trans K5 (λi hi h=>by
   rcases h with e|e|e
   ·omega
   ·rw[e];exact zgA M hv
   ·exact zht M hv e)
  clear U5 V5 R5 K5 hd5 hc5 F1 F2 hgs gsl NB V1 R1 hd OLD HK hBc hbk hwv;go_wp2_with fail;go_ret;exact⟨_,rfl,HF1.out,rfl,KK,HF2.out⟩
end
end Go.Proofs.YtjlfibhbfdckpaaGreatDoor
