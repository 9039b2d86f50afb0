import Derived.Test.YtjlfibhbfdckpaaGreatDoorV41
namespace Go.Proofs.YtjlfibhbfdckpaaGreatDoor
set_option maxHeartbeats 64000000
set_option maxRecDepth 100000
section
open Go.RowKit
attribute [local go_sem ↓] Go.wp_at_zero Go.wp_at_succ
structure zj8 (w:World) (bp n1:Nat) (c0 c1:Value) (l:List UInt8):Prop where
 ex:∃ap v,w.heap[bp]?=some (.cells #[c0,c1,ap,v] 194)/\(ap=.pointer none\/ap=.pointer (some ⟨bp,2,none⟩))/\w.ownsRow n1 5 1 v l.length (Lib.byteCells l)/\(v=.slice none 0 0↔l=[])
 lt:bp<n1
 le:n1<=w.heap.size
def znE (F:Nat->Prop) (w w':World):Prop:=∀(i:Nat) (cs:Array Value) (T:TypeId) (fr:Nat × Nat),w.heap[i]?=some (.cells cs T fr)->T≠5->¬F i->w'.heap[i]?=w.heap[i]?
theorem zro:(Tryz.prog.info? 192).map (·.size)=some 2:=by kernel_rfl
theorem zwf:liesAt Tryz.prog Tryz.prog.depth 194 (4/Tryz.prog.cellsOf 194) 2 192 1=true:=by kernel_rfl
theorem zuQ:(Tryz.prog.info? 5).map (λi=>(i.zero,i.size,i.bytes))=some (some (.int .u8 0),1,1):=by kernel_rfl
theorem zs7:Tryz.prog.cellsOf 5=1:=by kernel_rfl
theorem zmK (bp:Nat) (w:World) (h0:w.cell? ⟨bp,2,none⟩=some (.pointer (some ⟨bp,2,none⟩))):
 Calls Tryz.prog 231 #[.pointer (some ⟨bp,2,none⟩)] w λe w'=>e=.returned (.tuple #[])/\w'=w:=by
 obtain⟨j,hj,_⟩:=Option.map_eq_some_iff.1 zro;go_in;go_wp2_with fail;rw[Lib.run_neq_ptr_same w _ Tryz.underlying190 hj];go_wp2_with fail;go_end0;exact⟨rfl,rfl⟩
theorem zly (bp:Nat) (w:World) (h0:w.cell? ⟨bp,2,none⟩=some (.pointer none)) (hsh:w.shape? bp=some (194,4)) (hfz:w.frozen? ⟨bp,2,none⟩=false):
 Calls Tryz.prog 231 #[.pointer (some ⟨bp,2,none⟩)] w λe w'=>e=.returned (.tuple #[])/\w'=w.setCell ⟨bp,2,none⟩ (.pointer (some ⟨bp,2,none⟩)):=by
 obtain⟨j,hj,hjs⟩:=Option.map_eq_some_iff.1 zro;go_in;go_wp2_with fail;rw[Lib.run_to_unsafe w ⟨bp,2,none⟩ Tryz.underlying190 Tryz.underlying274 hj (by rw[hjs];decide) hsh (show 2<4 by decide)];simp only[Result.andThen];rw[Oper.upon_value];go_wp2_with fail;rw[run_callFunc_extern Tryz.func244 (by kernel_rfl) (by kernel_rfl) (by kernel_rfl) (e:=Extern.AbiNoEscape.same) (by kernel_rfl)];rw[Lib.run_noEscape];simp only[Result.andThen];rw[Oper.upon_value];go_wp2_with fail;rw[Lib.run_from_unsafe w ⟨bp,2,none⟩ Tryz.underlying274 Tryz.underlying190 hj hsh zwf];simp only[Result.andThen];rw[Oper.upon_value];go_wp2_with fail;go_end0;exact⟨rfl,rfl⟩
theorem zuR (bp n1:Nat) (c0 c1:Value) (l:List UInt8) (w:World) (h:zj8 w bp n1 c0 c1 l):
 Calls Tryz.prog 231 #[.pointer (some ⟨bp,2,none⟩)] w λe w'=>e=.returned (.tuple #[])/\(∃v,w'.heap[bp]?=some (.cells #[c0,c1,.pointer (some ⟨bp,2,none⟩),v] 194)/\w'.ownsRow n1 5 1 v l.length (Lib.byteCells l)/\(v=.slice none 0 0↔l=[]))/\zd (λi=>i=bp) w w':=by
 obtain⟨ap,v,hb,ha,hr,hl⟩:=h.ex;rcases ha with rfl|rfl
 ·refine(zly bp w (za hb 2) (by simp[World.shape?,hb]) (ze hb 2)).mono ?_;rintro e w' ⟨rfl,rfl⟩;have k:=(zd.refl (λi=>i=bp) w).setCell ⟨bp,2,none⟩ (.pointer (some ⟨bp,2,none⟩)) (λ_=>rfl);refine⟨rfl,⟨v,zg hb 2 _,ZH hr (λi hi=>k.block i (hr.lt i hi).2 ?_),hl⟩,k⟩;have:=(hr.lt i hi).1;have:=h.lt;omega
 ·refine(zmK bp w (za hb 2)).mono ?_;rintro e w' ⟨rfl,rfl⟩;exact⟨rfl,⟨v,hb,hr,hl⟩,zd.refl _ _⟩
theorem zs8 (bp n1:Nat) (c0 c1:Value) (l b:List UInt8) (w:World) (h:zj8 w bp n1 c0 c1 l) (hlen:l.length+b.length<=1000000):
 Calls Tryz.prog 215 #[.pointer (some ⟨bp,2,none⟩),zaD b] w λe w'=>e=.returned (.tuple #[.int .i64 b.length,.nilIface])/\zj8 w' bp n1 c0 c1 (l++b)/\zd (λi=>i=bp\/n1<=i) w w'/\znE (λi=>i=bp) w w':=by
 obtain⟨i0,hi,hz⟩:=Option.map_eq_some_iff.1 zuQ;have hz0:=(Prod.mk.inj hz).1;have hz1:=(Prod.mk.inj (Prod.mk.inj hz).2).1;have hz2:=(Prod.mk.inj (Prod.mk.inj hz).2).2;have HH:=zH h;have hlt:=h.lt;have hle:=h.le;have hbz:(⟨b.toArray⟩:ByteArray).size=b.length:=rfl;clear h hz;go_in;go_wp2_with fail;go_at_call 231;refine(zuR bp n1 c0 c1 l w HH.out).mono ?_;rintro e w1 ⟨rfl,⟨v,hbk,hown,hv⟩,hk⟩;have hs1:=hk.size;have HK1:=zH hk;have Hv:=zH hv;have d2:w1.cell? ⟨bp,2,none⟩=some (.pointer (some ⟨bp,2,none⟩)):=za hbk 2;have d3:w1.cell? ⟨bp,3,none⟩=some v:=za hbk 3;clear hk hv;go_wp2_with (at_builtin;refine Lib.wpList_append_own_string _ rfl _ _ 177 9 rfl n1 5 i0 Tryz.underlying177 Tryz.underlying9 hi hz0 hz1 hz2 _ _ _ rfl hown ⟨b.toArray⟩ rfl ?c3 ?c4 ?c5 ?_)
 case c3=>unfold maxLen;omega
 case c4=>omega
 case c5=>omega
 intro v' w2 hown' hgrow hnil;have hbp1:bp<w1.heap.size:=by omega
 have hne:v.ownBlock≠some bp:=λe=>by have:=(hown.lt bp e).1;omega
 have hb2:=(hgrow.block bp hbp1 (λe=>hne e.symm)).trans hbk;have e3:w2.cell? ⟨bp,3,none⟩=some v:=za hb2 3;have f3:=ze hb2 3;have hk3:=(zd.refl (λi=>i=bp) w2).setCell ⟨bp,3,none⟩ v' (λ_=>rfl);have hrow':w2.ownsRow n1 5 1 v' (l++b).length (Lib.byteCells (l++b)):=by
  rw[Lib.byteCells_append,List.length_append];exact hown'
 have HP:Hid (zj8 (w2.setCell ⟨bp,3,none⟩ v') bp n1 c0 c1 (l++b)/\zd (λi=>i=bp\/n1<=i) w (w2.setCell ⟨bp,3,none⟩ v')/\znE (λi=>i=bp) w (w2.setCell ⟨bp,3,none⟩ v')):=by
  refine⟨⟨⟨_,v',zg hb2 3 _,.inr rfl,ZH hrow' (λi hi=>hk3.block i (hrow'.lt i hi).2 ?_),?_⟩,hlt,?_⟩,?_,?_⟩
  ·have:=(hrow'.lt i hi).1;omega
  ·rw[hnil,Hv.out,List.append_eq_nil_iff]
  ·have:=hgrow.size;have:=hk3.size;omega
  ·refine((HK1.out.mono (λi hi=>.inl hi)).grown hgrow (λk hk _=>.inr (hown.lt k hk).1)).trans hk3 (λi _ hi=>.inl hi)
  ·intro i cs T fr hi hT hF;have hi0:=(Array.getElem?_eq_some_iff.1 hi).1;have b1:=HK1.out.block i hi0 hF;have b2:=hgrow.block i (by omega) (λe=>Lib.ownBlock_ne hown (b1.trans hi) hT e.symm);have hs2:=hgrow.size;exact(hk3.block i (by omega) hF).trans (b2.trans b1)
 obtain⟨ao,n',cap,rfl⟩:∃ao n' cap,v'=.slice ao n' cap:=by
  rcases hown'.2 with⟨hv,_⟩|⟨g,cap,cur,hv,_⟩
  ·exact⟨_,_,_,hv⟩
  ·exact⟨_,_,_,hv⟩
 clear hrow' hown' hgrow hnil hk3 hown;go_wp2_with fail;go_ret2;exact⟨rfl,HP.out⟩
theorem zs9 (bp n1:Nat) (c0 c1:Value) (l:List UInt8) (w:World) (h:zj8 w bp n1 c0 c1 l):
 Calls Tryz.prog 179 #[.pointer (some ⟨bp,2,none⟩)] w λe w'=>e=.returned (zaD l)/\Below n1 w w':=by
 obtain⟨ap,v,hb,ha,hown,hl⟩:=h.ex;have hUS:=λ(W:World) (q:Option Addr)=>Lib.run_unsafeString_none (P:=Tryz.prog) W 212 3 9 q;by_cases h0:l=[]
 ·subst h0;obtain rfl:=hl.2 rfl;have c1:w.drew.cell? ⟨bp,3,none⟩=some (.slice none 0 0):=za hb 3;have hSD:(Builtin.unsafeSliceData_ #[177] 212 #[.slice none 0 0]).run Tryz.prog w.drew=.ok (.pointer none) w.drew:=rfl;clear hown hl ha h hb;go_in;go_wp2_with fail;go_region;all_goals (go_wp2_with fail;go_ret;exact⟨rfl,Below.drew (Below.refl n1 w)⟩)
 ·have hl0:l.length≠0:=by simpa using h0
  obtain⟨g,cap,cur,rfl,hbg,hg,hnc,hcm,hcs,htake⟩:∃g cap cur,v=.slice (some ⟨g,0,none⟩) l.length cap/\n1<=g/\w.heap[g]?=some (.cells cur 5 (0,0))/\l.length<=cap/\cap<=maxLen/\cur.size=cap*1/\cur.toList.take (l.length*1)=Lib.byteCells l:=by
   rcases hown.2 with⟨_,hz⟩|⟨g,cap,cur,hv,r⟩
   ·exact absurd hz hl0
   ·exact⟨g,cap,cur,hv,r⟩
  have c1:w.drew.cell? ⟨bp,3,none⟩=some (.slice (some ⟨g,0,none⟩) l.length cap):=za hb 3;have hSD:(Builtin.unsafeSliceData_ #[177] 212 #[.slice (some ⟨g,0,none⟩) l.length cap]).run Tryz.prog w.drew=.ok (.pointer (some ⟨g,0,none⟩)) w.drew:=
   Lib.run_unsafeSliceData_row _ _ _ _ _ _ (by omega)
  have hUS:(Builtin.unsafeString_ #[212,3] 9 #[.pointer (some ⟨g,0,none⟩),.int .i64 l.length]).run Tryz.prog w.drew=.ok (.string ⟨l.toArray⟩) (w.drew.freeze ⟨g,0,none⟩ l.length):=by
   refine Lib.run_unsafeString_row w.drew 212 3 9 5 Tryz.underlying212 zs7 g cur.size (by have hg':w.drew.heap[g]?=some (.cells cur 5 (0,0)):=hg;simp[World.shape?,hg']) l h0 (by omega) (by unfold maxLen at hcm;omega) ?_;intro j x hx;have:=hown.cells (g:=g) rfl j (.int .u8 x.toNat) (by simp[Lib.byteCells,hx]);exact this
  clear hown hl ha h hb hg htake hcs hcm hnc hl0 h0;go_in;go_wp2_with fail;go_region;all_goals (go_wp2_with fail;go_ret;exact⟨rfl,Lib.below_freeze (Below.drew (Below.refl n1 w)) (p:=⟨g,0,none⟩) hbg _⟩)
structure PaM (w:World) (m0 n1 bp po pc:Nat) (lb lc:Nat->Nat) (H:Nat) (P:Nat->Nat->zk) (bs bg g N:Nat) (s:Rs) (l:List UInt8):Prop where
 ex:∃t,PtM w bp po pc lb lc H P bs bg g N s t/\Tie s.B t
 bd:zj8 w bp n1 (.slice (some ⟨po,0,none⟩) H pc) (.pointer (some ⟨bs,0,none⟩)) l
 tab:ZY w
 m2:2<=m0
 po0:po<m0
 lb0:∀y,y<H->lb y<m0
 s0:m0<=bs/\bs<n1/\bs≠bp
 g0:m0<=bg/\bg<n1/\bg≠bp
 c0:m0<=g/\g<n1/\g≠bp
 p0:m0<=bp
section
variable {w w':World} {m0 n1 bp po pc:Nat} {lb lc:Nat->Nat} {H:Nat} {P:Nat->Nat->zk} {bs bg g N:Nat} {s:Rs} {l:List UInt8}
theorem zj8.keep {c0 c1:Value} {F:Nat->Prop} (h:zj8 w bp n1 c0 c1 l) (k:zd F w w') (hp:¬F bp) (hn:∀i,n1<=i->¬F i):zj8 w' bp n1 c0 c1 l:=by
 obtain⟨ap,v,hb,ha,hr,hl⟩:=h.ex;have:=h.lt;have:=h.le;have:=k.size;exact⟨⟨ap,v,(k.block bp (by omega) hp).trans hb,ha,ZH hr (λi hi=>k.block i (hr.lt i hi).2 (hn i (hr.lt i hi).1)),hl⟩,h.lt,by omega⟩
theorem PaM.below (h:PaM w m0 n1 bp po pc lb lc H P bs bg g N s l) (hb:Below w.heap.size w w'):PaM w' m0 n1 bp po pc lb lc H P bs bg g N s l:=by
 obtain⟨t,pt,tie⟩:=h.ex;exact⟨⟨t,pt.below hb,tie⟩,h.bd.keep (zd.below (λ_=>False) hb) (λf=>f) (λ_ _ f=>f),h.tab.below hb,h.m2,h.po0,h.lb0,h.s0,h.g0,h.c0,h.p0⟩
theorem PcM.keep {W:Nat} {F:Nat->Prop} (h:PcM w po lb lc W H P) (k:zd F w w') (hp:¬F po) (hl:∀y,y<H->¬F (lb y)):PcM w' po lb lc W H P:=
 h.far (λi hi hc=>k.block i hi (by
  rcases hc with rfl|⟨y,hy,rfl⟩
  ·exact hp
  ·exact hl y hy))
end
theorem zjp (m0 n1 bp po pc:Nat) (lb lc:Nat->Nat) (H:Nat) (P:Nat->Nat->zk) (bs bg g N:Nat) (s:Rs) (l b:List UInt8) (w:World) (h:PaM w m0 n1 bp po pc lb lc H P bs bg g N s l) (ok:s.Ok) (hlen:l.length+b.length<=1000000) (eW:(zj s b).W=s.W) (eH:(zj s b).H=s.H):
 Calls Tryz.prog 198 #[.pointer (some ⟨bp,0,none⟩),zaD b] w λe w'=>e=.returned (.tuple #[])/\PaM w' m0 n1 bp po pc lb lc H P bs bg g N (zj s b) (l++b)/\Below m0 w w'/\znE (λi=>i=bp\/i=bs\/i=bg\/i=g) w w':=by
 have HH:=zH h;have Hok:Hid (s.Ok/\l.length+b.length<=1000000/\(zj s b).W=s.W/\(zj s b).H=s.H):=⟨ok,hlen,eW,eH⟩;clear h ok hlen eW eH;go_in;go_wp2_with fail;go_at_call 215;refine(zs8 bp n1 _ _ l b w HH.out.bd Hok.out.2.1).mono ?_;rintro e w1 ⟨rfl,B1,K1,A1⟩;have hm:n1<=w.heap.size/\bp<n1:=⟨HH.out.bd.le,HH.out.bd.lt⟩;have H1:Hid (∃t,PtM w1 bp po pc lb lc H P bs bg g N s t/\Tie s.B t):=by
  obtain⟨t,pt,tie⟩:=HH.out.ex;obtain⟨ap,v,hb,_⟩:=B1.ex;have s0:=HH.out.s0;have g0:=HH.out.g0;have c0:=HH.out.c0;have p0:=HH.out.p0;have po0:=HH.out.po0;refine⟨t,⟨za hb 0,za hb 1,pt.pic.keep K1 (by omega) (λy hy=>by have:=HH.out.lb0 y hy;omega),pt.hs,pt.hpc,pt.scr.same (K1.block _ pt.scr.lt (by omega)) (K1.block _ pt.scr.gr.lt (by omega)) (K1.block _ pt.scr.gr.glt (by omega))⟩,tie⟩
 have T1:Hid (ZY w1):=by
  have:=HH.out.m2;have:=HH.out.p0;exact HH.out.tab.keep K1 (by omega) (by omega)
 have HB1:=zH B1;have HK1:=zH K1;have c1:w1.cell? ⟨bp,1,none⟩=some (.pointer (some ⟨bs,0,none⟩)):=by
  obtain⟨t,pt,_⟩:=H1.out;exact pt.c1
 have HA1:=zH A1;clear B1 K1 hm A1;go_wp2_with fail;go_at_call 62;obtain⟨t,pt,tie⟩:=H1.out;have s0:=HH.out.s0;have g0:=HH.out.g0;have k0:=HH.out.c0;have m2:=HH.out.m2;have p0:=HH.out.p0;have po0:=HH.out.po0;have n1l:=HB1.out.lt;refine(zq8 bs bg g N s t ⟨b.toArray⟩ w1 pt.scr Hok.out.1 T1.out tie (by omega) (by omega) (by omega) (by omega) (by omega) (by omega) (by have:=Hok.out.2.1;show b.length<=_;omega)).mono ?_;rintro e w2 ⟨rfl,⟨t2,P2,tie2⟩,K2⟩;have e2:zj s (⟨b.toArray⟩:ByteArray).data.toList=zj s b:=by simp
 rw[e2] at P2 tie2;have HF:Hid (PaM w2 m0 n1 bp po pc lb lc H P bs bg g N (zj s b) (l++b)/\Below m0 w w2/\znE (λi=>i=bp\/i=bs\/i=bg\/i=g) w w2):=by
  have hb2:=HB1.out.keep K2 (by omega) (λi hi=>by omega);obtain⟨ap,v,hbk,_⟩:=hb2.ex;have hlb:=HH.out.lb0;refine⟨⟨⟨t2,⟨za hbk 0,za hbk 1,?_,by rw[Hok.out.2.2.2];exact pt.hs,pt.hpc,P2⟩,tie2⟩,hb2,T1.out.keep K2 (by omega) (by omega),m2,po0,hlb,s0,g0,k0,p0⟩,?_,?_⟩
  ·rw[Hok.out.2.2.1];exact pt.pic.keep K2 (by omega) (λy hy=>by have:=hlb y hy;omega)
  ·have hle:=HH.out.bd.le;exact(HK1.out.toBelow (by omega) (λi hi=>by omega)).trans (K2.toBelow (by have:=HK1.out.size;omega) (λi hi=>by omega))
  ·intro i cs T fr hi hT hF;have b1:=HA1.out i cs T fr hi hT (λe=>hF (.inl e));have hi0:=(Array.getElem?_eq_some_iff.1 hi).1;have hs:=HK1.out.size;exact(K2.block i (by omega) (λe=>hF (.inr e))).trans b1
 clear P2 K2 tie2 pt tie;go_wp2_with fail;go_end0;exact⟨rfl,HF.out⟩
theorem zpe {s:Rs} (h:s.Fl) {b:Int} (h0:0<=b) (h1:b<=8):(zaR s b).Ok:=⟨h.pen.1,h.pen.2.1,h0,h1⟩
theorem zta (m0 n1 bp po pc:Nat) (lb lc:Nat->Nat) (H:Nat) (P:Nat->Nat->zk) (bs bg g N:Nat) (s:Rs) (l:List UInt8) (n:Int) (w:World) (h:PaM w m0 n1 bp po pc lb lc H P bs bg g N s l) (fl:s.Fl) (n0:n≠0) (na:-100<n) (nb:n<100) (hlen:l.length<=900000):
 Calls Tryz.prog 176 #[.pointer (some ⟨bp,0,none⟩),.int .i64 n] w λe w'=>e=.returned (.tuple #[])/\PaM w' m0 n1 bp po pc lb lc H P bs bg g N (zj s (zab s n)) (l++zab s n)/\Below m0 w w':=by
 have HH:=zH h;have hsl:=zfq fl na nb;have hdef:zab s n=zcD s.pen (zaR s 0)++Zy n 83 84:=rfl;have hok:=zpe fl (b:=0) (by omega) (by omega);have hf1:=zfO fl.B hok;have hf2:=zeI fl n0 na nb;obtain⟨t,pt,tie⟩:=h.ex;have Hm:Hid (m0<=w.heap.size):=by
  have:=h.bd.le;have:=h.bd.lt;have:=h.p0;show _<=_;omega
 have c1:=pt.c1;have HP:=zH pt;obtain⟨pl,hpl⟩:∃pl,zcD s.pen (zaR s 0)=pl:=⟨_,rfl⟩;obtain⟨al,hal⟩:∃al,Zy n 83 84=al:=⟨_,rfl⟩;rw[hdef,hpl,hal] at hsl hf2;rw[hpl] at hf1;rw[hdef,hpl,hal];have Hpl:=zH hpl;have Hal:=zH hal;have Hl:Hid (pl.length+al.length<=10/\l.length<=900000):=⟨by rw[List.length_append] at hsl;exact hsl,hlen⟩;have Hf1:=zH hf1;have Hf2:=zH hf2;have Hok:Hid (s.Fl/\(zaR s 0).Ok):=⟨fl,hok⟩;clear h hsl hdef hok hf1 hf2 pt tie hpl hal hlen fl;go_in;go_wp2_with fail;go_at_call 63;refine(zj7 bs bg g N s t w HP.out.scr).mono ?_;rintro e w1 ⟨rfl,hb1⟩;generalize (decide (t.mode=0)&&decide (t.bn=0))=gb at *;have hsp:=zjq s gb;have HB1:=zH hb1;clear hb1 c1;go_wp2_with fail;go_at_call 200;refine(znF bp po pc lb lc H P bs bg g N s t 0 w1 (HP.out.below HB1.out)).mono ?_;rintro e w2 ⟨rfl,hb2⟩;have HB2:=zH<|HB1.out.trans (hb2.mono HB1.out.size)
 clear hb2 HB1 hsp;go_wp2_with fail;go_at_call 199;refine(zh0 s.pen (zaR s 0) w2 Hok.out.2).mono ?_;rw[Hpl.out];rintro e w3 ⟨rfl,hb3⟩;have HB3:=zH<|HB2.out.trans (hb3.mono HB2.out.size)
 clear hb3 HB2;go_wp2_with fail;go_at_call 198;refine(zjp m0 n1 bp po pc lb lc H P bs bg g N s l pl w3 (HH.out.below HB3.out) Hok.out.1.ok (by have:=Hl.out;omega) (by rw[Hf1.out]) (by rw[Hf1.out])).mono ?_;rintro e w4 ⟨rfl,P4,hb4,_⟩;have HP4:Hid (PaM w4 m0 n1 bp po pc lb lc H P bs bg g N (zj s pl) (l++pl)/\Below m0 w w4):=⟨P4,(HB3.out.mono Hm.out).trans hb4⟩;clear P4 hb4 HB3;go_wp2_with fail;go_at_call 201;refine(zmx n 83 84 w4 na nb).mono ?_;rw[Hal.out];rintro e w5 ⟨rfl,hb5⟩;have HP5:Hid (PaM w5 m0 n1 bp po pc lb lc H P bs bg g N (zj s pl) (l++pl)/\Below m0 w w5):=⟨HP4.out.1.below hb5,HP4.out.2.trans (hb5.mono (by
  have:=HP4.out.1.bd.le;have:=HP4.out.1.bd.lt;have:=HP4.out.1.p0;omega))⟩
 clear hb5 HP4;go_wp2_with fail;go_at_call 198;refine(zjp m0 n1 bp po pc lb lc H P bs bg g N (zj s pl) (l++pl) al w5 HP5.out.1 (zfp pl Hok.out.1.ok) (by have:=Hl.out;rw[List.length_append];omega) (by rw[←ZS,Hf2.out,Hf1.out]) (by rw[←ZS,Hf2.out,Hf1.out])).mono ?_;rintro e w6 ⟨rfl,P6,hb6,_⟩;rw[←ZS,List.append_assoc] at P6;have HP6:Hid (PaM w6 m0 n1 bp po pc lb lc H P bs bg g N (zj s (pl++al)) (l++(pl++al))/\Below m0 w w6):=⟨P6,HP5.out.2.trans hb6⟩;clear P6 hb6;go_wp2_with fail;go_end0;exact⟨rfl,HP6.out⟩
def zbz (s:Rs) (P:Nat->Nat->zk) (n:Int) (i:Nat):Bool:=!(zcz s (i%s.W) ((i/s.W:Nat)+n)).eqB (P (i%s.W) (i/s.W))
theorem zmM (s:Rs) (P:Nat->Nat->zk) (n:Int):ZA s P n=za0 (zbz s P n) (s.H*s.W):=rfl
theorem zlB (s:Rs) (P:Nat->Nat->zk) (n:Int) {x y:Nat} (hx:x<s.W):zbz s P n (y*s.W+x) = !(zcz s x ((y:Int)+n)).eqB (P x y):=by
 unfold zbz;rw[Nat.add_comm,Nat.add_mul_mod_self_right,Nat.mod_eq_of_lt hx,Nat.add_mul_div_right _ _ (by omega),Nat.div_eq_of_lt hx,Nat.zero_add]
theorem zii (p:Nat->Bool) (i:Nat):za0 p (i+1)=za0 p i+(if p i=true then 1 else 0):=rfl
theorem zbE (w:World) (c:zk) (T:TypeId) (hT:T=38):∃wA,w.alloc (.cells #[.int .i32 c.r,.int .i64 c.p,.int .i64 c.n.f,.int .i64 c.n.b,.bool c.n.bo,.bool c.n.un,.bool c.n.re] T)=wA/\Below w.heap.size w wA/\zv wA w.heap.size 0 c/\wA.heap.size=w.heap.size+1/\(∀o,wA.frozen? ⟨w.heap.size,o,none⟩=false):=by
 subst hT;exact⟨_,rfl,(Below.refl _ _).alloc (Nat.le_refl _) _,zcq w c c.p rfl _,by simp,ze (zf _ _)⟩
theorem ztb (bs bg g N:Nat) (s:Rs) (t:Pt) (po pc:Nat) (lb lc:Nat->Nat) (H:Nat) (P:Nat->Nat->zk) (n:Int) (w:World) (hp:zh w bs bg g N s t) (pic:PcM w po lb lc s.W H P) (hs:H=s.H) (ok:s.Ok) (na:-100<n) (nb:n<100):
 Calls Tryz.prog 180 #[.pointer (some ⟨bs,0,none⟩),.slice (some ⟨po,0,none⟩) H pc,.int .i64 n] w λe w'=>e=.returned (.int .i64 (ZA s P n:Nat))/\Below w.heap.size w w':=by
 have HH:Hid (zh w bs bg g N s t/\PcM w po lb lc s.W H P):=⟨hp,pic⟩;have w1:=ok.w1;have w2:=ok.w2;have h2:=ok.h2;have hH:H<=20:=by omega
 have hmul:=Nat.mul_le_mul hH w2;have Hs:=zH hs;have Hcnt:Hid (∀i,za0 (zbz s P n) i<=i):=zd7 _;obtain⟨blk0,hblk0⟩:∃c,blk Pn.plain=c:=⟨_,rfl⟩;have Hblk:=zH hblk0;clear hp pic hs ok h2 hblk0;go_in;go_wp2_with fail;go_loopw[15,7] (λvi vs wr=>∃y:Nat,vi=.int .i64 y/\y<=H/\vs=.int .i64 (za0 (zbz s P n) (y*s.W):Nat)/\Below w.heap.size w wr) (λvi _ _=>H-(intOf vi).toNat)
 case atStart=>exact⟨0,rfl,Nat.zero_le _,by simp[za0],Below.refl _ _⟩
 case round=>
  obtain⟨y,rfl,hy,rfl,hbw⟩:=hrel;have HB:=zH hbw;clear hbw;by_cases hc:y<H
  ·have hc':(y:Int)<(H:Int):=by omega
   have r0:=(HH.out.2.below HB.out).row y hc;go_wp2_with fail;go_loopw[22,7] (λvi vs wi=>∃x:Nat,vi=.int .i64 x/\x<=s.W/\vs=.int .i64 (za0 (zbz s P n) (y*s.W+x):Nat)/\Below w.heap.size w wi) (λvi _ _=>s.W-(intOf vi).toNat)
   case atStart=>exact⟨0,rfl,Nat.zero_le _,rfl,HB.out⟩
   case round=>
    obtain⟨x,rfl,hx,rfl,hbi⟩:=hrel;have HBi:=zH hbi;have HPi:Hid (zh wr bs bg g N s t/\PcM wr po lb lc s.W H P):=⟨HH.out.1.below hbi,HH.out.2.below hbi⟩;have hyW:y*s.W+s.W<=H*s.W:=by rw[←Nat.succ_mul];exact Nat.mul_le_mul_right _ hc
    clear hbi r0;by_cases hxc:x<s.W
    ·have hxc':(x:Int)<(s.W:Int):=by omega
     obtain⟨a0,a1,a2,a3,a4,a5,a6⟩:=HPi.out.2.cel y x hc hxc;have hcl:=Hcnt.out (y*s.W+x);have Hnx:Hid (za0 (zbz s P n) (y*s.W+(x+1))=za0 (zbz s P n) (y*s.W+x)+(if (!(zcz s x ((y:Int)+n)).eqB (P x y))=true then 1 else 0)):=by
      show _=_;rw[←Nat.add_assoc,zii,zlB s P n hxc]
     obtain⟨sm,hsm⟩:∃sm,za0 (zbz s P n) (y*s.W+x)=sm:=⟨_,rfl⟩;have hsl:sm<=800:=by omega
     rw[hsm] at Hnx ⊢;have Hyx:Hid (y<H/\x<s.W):=⟨hc,hxc⟩;have hy2:(y:Int)<=20:=by omega
     have hy0:(0:Int)<=(y:Int):=by omega
     clear hcl hsm hyW hmul hH hc hxc hx hy;go_wp2_with fail;obtain⟨wA,hwA,belA,cA,zA,fA⟩:=zbE wr (P x y) _ rfl;rw[hwA];obtain⟨M,hM⟩:∃M,wr.heap.size=M:=⟨_,rfl⟩;rw[hM] at cA zA ⊢;have HA:Hid (Below wr.heap.size wr wA/\zv wA M 0 (P x y)):=⟨belA,cA⟩;clear hwA belA cA fA a0 a1 a2 a3 a4 a5 a6;go_at_call 147;refine(zes (⟨0,0,false,false,false⟩:Pn) wA).mono ?_;rintro e wB ⟨rfl,hbB⟩;have HBK:Hid (blk (⟨0,0,false,false,false⟩:Pn)=blk0):=Hblk.out;rw[HBK.out];have zB:M<wB.heap.size:=by have:=hbB.size;omega
     have HB2:Hid (Below wr.heap.size wr wB/\zv wB M 0 (P x y)):=⟨HA.out.1.trans (hbB.mono HA.out.1.size),HA.out.2.below hbB (by omega)⟩;clear hbB HA zA;go_wp2_with fail;obtain⟨wC,hwC,belC,cC,zC,fC⟩:=zbE wB blk0 _ rfl;rw[hwC];obtain⟨D,hD⟩:∃D,wB.heap.size=D:=⟨_,rfl⟩;rw[hD] at cC zC fC ⊢;have HC:Hid (Below wr.heap.size wr wC/\zv wC M 0 (P x y)/\zv wC D 0 blk0):=⟨HB2.out.1.trans (belC.mono HB2.out.1.size),HB2.out.2.below belC (by omega),cC⟩;have HfC:=zH fC;have hMD:M<D:=by omega
     clear hwC belC cC HB2 fC;go_at_call 121;refine sM (zlt bs bg g N s t x ((y:Int)+n) wC (HPi.out.1.below HC.out.1)) ?_;cases hin:inG s.W s.H x ((y:Int)+n) with
     |false=>
      have Hcr:Hid (zcz s x ((y:Int)+n)=blk0):=by
       show _=_;unfold zcz;rw[if_neg (by rw[hin];decide),Hblk.out]
      obtain⟨p0,p1,p2,p3,p4,p5,p6⟩:=HC.out.2.1;obtain⟨q0,q1,q2,q3,q4,q5,q6⟩:=HC.out.2.2;simp only[Nat.zero_add] at p0 p1 p2 p3 p4 p5 p6 q0 q1 q2 q3 q4 q5 q6;have hne:=λw=>zcO blk0 (P x y) w;clear hin;cases hq:(blk0).eqB (P x y) with
      |true=>
       have Hq:=zH hq;simp only[hq,Bool.not_true] at hne;clear hq;go_wp2_with fail;go_roundw
       case rel=>exact⟨x+1,by go_num,by have:=Hyx.out.2;omega,by rw[Hnx.out,Hcr.out,Hq.out];rfl,HBi.out.trans (HC.out.1.mono HBi.out.size)⟩
       case measure=>simp[intOf];have:=Hyx.out.2;omega
      |false=>
       have Hq:=zH hq;simp only[hq,Bool.not_false] at hne;clear hq;go_wp2_with fail;go_roundw
       case rel=>exact⟨x+1,by go_num,by have:=Hyx.out.2;omega,by rw[Hnx.out,Hcr.out,Hq.out];rfl,HBi.out.trans (HC.out.1.mono HBi.out.size)⟩
       case measure=>simp[intOf];have:=Hyx.out.2;omega
     |true=>
      obtain⟨i0,i1,i2,i3⟩:=zu.1 hin;obtain⟨yy,hyy⟩:=Int.eq_ofNat_of_zero_le i2;have hyy':=hyy;have Hcr:Hid (zcz s x ((y:Int)+n)=s.G x yy):=by
       show _=_;unfold zcz;rw[if_pos hin,hyy',Int.toNat_natCast]
      have e9:IntKind.i64.wrap ((y:Int)+n)=(yy:Int):=by rw[←hyy'];exact zm _ (by omega) (by omega)
      have Hyy:Hid (x<s.W/\yy<s.H):=⟨by omega,by omega⟩;clear hin hyy i0 i1 i2 i3;go_wp2_with fail;go_at_call 122;refine(znC bs bg g N s t x yy wC (HPi.out.1.below HC.out.1) Hyy.out.1 Hyy.out.2).mono ?_;rintro e wD ⟨rfl,hbD⟩;have HD:Hid (Below wr.heap.size wr wD/\zv wD M 0 (P x y)/\zv wD D 0 blk0):=⟨HC.out.1.trans (hbD.mono HC.out.1.size),HC.out.2.1.below hbD HC.out.2.1.lt,HC.out.2.2.below hbD HC.out.2.2.lt⟩;have f0:=λo=>(za4 (hbD.block D HC.out.2.2.lt) o).trans (HfC.out o);obtain⟨cc,hcc⟩:∃cc,s.G x yy=cc:=⟨_,rfl⟩;rw[hcc] at Hcr ⊢;obtain⟨q0,q1,q2,q3,q4,q5,q6⟩:=HD.out.2.2;simp only[Nat.zero_add] at q0 q1 q2 q3 q4 q5 q6;clear hbD HC HfC hcc e9 hyy';go_upto_region 11 with fail
      have hE:∃wE,put7 wD D 0 cc=wE/\zv wE D 0 cc/\zv wE M 0 (P x y)/\Below wr.heap.size wr wE:=by
       refine⟨_,rfl,zai HD.out.2.2,HD.out.2.1.put (by omega),?_⟩;exact HD.out.1.trans (((zd.refl (λi=>i=D) wD).put7 D 0 cc (λ_=>rfl)).toBelow HD.out.1.size (λi hi e=>by omega))
      obtain⟨wE,hwE,cD,cM,belE⟩:=hE;unfold put7 at hwE;simp only[Nat.zero_add] at hwE;rw[hwE];have HE:=zH belE;obtain⟨p0,p1,p2,p3,p4,p5,p6⟩:=cM;clear q0 q1 q2 q3 q4 q5 q6;obtain⟨q0,q1,q2,q3,q4,q5,q6⟩:=cD;simp only[Nat.zero_add] at p0 p1 p2 p3 p4 p5 p6 q0 q1 q2 q3 q4 q5 q6;have hne:=λw=>zcO cc (P x y) w;clear hwE belE HD f0;cases hq:cc.eqB (P x y) with
      |true=>
       have Hq:=zH hq;simp only[hq,Bool.not_true] at hne;clear hq;go_wp2_with fail;go_roundw
       case rel=>exact⟨x+1,by go_num,by have:=Hyx.out.2;omega,by rw[Hnx.out,Hcr.out,Hq.out];rfl,HBi.out.trans (HE.out.mono HBi.out.size)⟩
       case measure=>simp[intOf];have:=Hyx.out.2;omega
      |false=>
       have Hq:=zH hq;simp only[hq,Bool.not_false] at hne;clear hq;go_wp2_with fail;go_roundw
       case rel=>exact⟨x+1,by go_num,by have:=Hyx.out.2;omega,by rw[Hnx.out,Hcr.out,Hq.out];rfl,HBi.out.trans (HE.out.mono HBi.out.size)⟩
       case measure=>simp[intOf];have:=Hyx.out.2;omega
    ·have hxc':¬((x:Int)<(s.W:Int)):=by omega
     have ex:x=s.W:=by omega
     have Hex:=zH ex;have Hy:=zH hc;clear ex;go_wp2_with fail;go_roundw
     case rel=>exact⟨y+1,by go_num,by have:=Hy.out;omega,by rw[Hex.out,Nat.succ_mul],HBi.out⟩
     case measure=>simp[intOf];have:=Hy.out;omega
  ·have hc':¬((y:Int)<(H:Int)):=by omega
   have ey:y=H:=by omega
   have Hey:=zH ey;clear ey;go_wp2_with fail;go_ret;exact⟨by rw[zmM,←Hs.out,Hey.out];rfl,HB.out⟩
theorem zwg (m0 n1 bp po pc:Nat) (lb lc:Nat->Nat) (H:Nat) (P:Nat->Nat->zk) (bs bg g N:Nat) (s:Rs) (l:List UInt8) (x y:Nat) (w:World) (h:PaM w m0 n1 bp po pc lb lc H P bs bg g N s l) (fl:s.Fl) (hP:zeG s.W s.H P) (hx:x<s.W) (hy:y<s.H) (hb:∀a b,a<s.W->b<s.H->b*s.W+a<y*s.W+x->s.G a b=P a b) (hd:s.G x y≠P x y) (hlen:l.length<=900000):
 Calls Tryz.prog 178 #[.pointer (some ⟨bp,0,none⟩),.int .i64 x,.int .i64 y] w λe w'=>e=.returned (.tuple #[])/\PaM w' m0 n1 bp po pc lb lc H P bs bg g N (zj s (zbs s P x y)) (l++zbs s P x y)/\Below m0 w w':=by
 have hms:=zi3 fl hP.wf hP.pen hx hy hb hd;have mW:=hms.2.1;have mH:=hms.2.2.1;have ml:=hms.2.2.2.2.2;clear hms;have hn:=hP.pen x y hx hy;obtain⟨t,pt,tie⟩:=h.ex;have hyH:y<H:=by rw[pt.hs];exact hy
 have c0:=pt.c0;have r0:=pt.pic.row y hyH;obtain⟨a0,a1,a2,a3,a4,a5,a6⟩:=pt.pic.cel y x hyH hx;have hy':(y:Int)<(H:Int):=by omega
 have hx':(x:Int)<(s.W:Int):=by omega
 have HH:=zH h;have HP:=zH pt;have Hm:Hid (m0<=w.heap.size):=by
  have:=h.bd.le;have:=h.bd.lt;have:=h.p0;show _<=_;omega
 have Hxy:Hid (x<s.W/\y<s.H):=⟨hx,hy⟩;have Hfl:Hid (s.Fl/\(P x y).n.Ok/\l.length<=900000/\(zbs s P x y).length<=33/\(zj s (zbs s P x y)).W=s.W/\(zj s (zbs s P x y)).H=s.H):=⟨fl,hn,hlen,ml,mW,mH⟩;obtain⟨md,hmd⟩:∃md,zbs s P x y=md:=⟨_,rfl⟩;have Hmd:=zH hmd;rw[hmd] at Hfl ⊢;have hns:bp≠bs/\bp≠bg/\bp≠g/\bp<n1/\bs<n1/\bg<n1/\g<n1/\n1<=w.heap.size:=⟨Ne.symm h.s0.2.2,Ne.symm h.g0.2.2,Ne.symm h.c0.2.2,h.bd.lt,h.s0.2.1,h.g0.2.1,h.c0.2.1,h.bd.le⟩;have Hns:=zH hns;clear h pt tie hP hb hd hlen ml mW mH hn fl hyH hx hy hmd hns;go_in;go_upto_region 1 with fail
 have hA:∃wA M,w.alloc (.cells #[.int .i32 (P x y).r,.int .i64 (P x y).p,.int .i64 (P x y).n.f,.int .i64 (P x y).n.b,.bool (P x y).n.bo,.bool (P x y).n.un,.bool (P x y).n.re] 38)=wA/\w.heap.size=M/\Below w.heap.size w wA/\wA.heap[M]?=some (.cells #[.int .i32 (P x y).r,.int .i64 (P x y).p,.int .i64 (P x y).n.f,.int .i64 (P x y).n.b,.bool (P x y).n.bo,.bool (P x y).n.un,.bool (P x y).n.re] 38)/\wA.heap.size=M+1:=⟨_,_,rfl,rfl,(Below.refl _ _).alloc (Nat.le_refl _) _,zf _ _,by simp⟩;obtain⟨wA,M,hwA,hM,belA,bA,zA⟩:=hA;rw[hwA];try rw[hM]
 have HA:Hid (Below w.heap.size w wA/\wA.heap[M]?=some (.cells #[.int .i32 (P x y).r,.int .i64 (P x y).p,.int .i64 (P x y).n.f,.int .i64 (P x y).n.b,.bool (P x y).n.bo,.bool (P x y).n.un,.bool (P x y).n.re] 38)):=⟨belA,bA⟩;have HM:=zH hM;have HnM:Hid (¬(M=bp\/M=bs\/M=bg\/M=g)):=by
  obtain⟨_,_,_,q4,q5,q6,q7,q8⟩:=Hns.out;show¬_;omega
 clear hwA belA bA a0 a1 a2 a3 a4 a5 a6 c0 r0 hM;go_wp2_with fail;go_at_call 202;refine(zrq bp po pc lb lc H P bs bg g N s t x y wA (HP.out.below HA.out.1) Hfl.out.1.ok Hxy.out.1 Hxy.out.2).mono ?_;rintro e w1 ⟨rfl,hb1⟩;have z1:M<w1.heap.size:=by have:=hb1.size;omega
 have H1:Hid (Below w.heap.size w w1/\w1.heap[M]?=some (.cells #[.int .i32 (P x y).r,.int .i64 (P x y).p,.int .i64 (P x y).n.f,.int .i64 (P x y).n.b,.bool (P x y).n.bo,.bool (P x y).n.un,.bool (P x y).n.re] 38)/\PtM w1 bp po pc lb lc H P bs bg g N s t/\PaM w1 m0 n1 bp po pc lb lc H P bs bg g N s l):=by
  have b:=HA.out.1.trans (hb1.mono HA.out.1.size);exact⟨b,(hb1.block M (by omega)).trans HA.out.2,HP.out.below b,HH.out.below b⟩
 clear hb1 HA zA;have c1:=H1.out.2.2.1.c1;have zb:=World.block_lt_of_cell? _ _ c1;have p0:w1.cell? ⟨M,0,none⟩=some (.int .i32 (P x y).r):=za H1.out.2.1 0;have p2:w1.cell? ⟨M,2,none⟩=some (.int .i64 (P x y).n.f):=za H1.out.2.1 2;have p3:w1.cell? ⟨M,3,none⟩=some (.int .i64 (P x y).n.b):=za H1.out.2.1 3;have p4:w1.cell? ⟨M,4,none⟩=some (.bool (P x y).n.bo):=za H1.out.2.1 4;have p5:w1.cell? ⟨M,5,none⟩=some (.bool (P x y).n.un):=za H1.out.2.1 5;have p6:w1.cell? ⟨M,6,none⟩=some (.bool (P x y).n.re):=za H1.out.2.1 6;by_cases he:zaQ s P x y=[]
 ·rw[he];obtain⟨rl,hrl⟩:∃rl,zb3 s ⟨x,y,(P x y).n,true⟩=rl:=⟨_,rfl⟩;obtain⟨el,hel⟩:∃el,zdd (P x y).r=el:=⟨_,rfl⟩;have Hdef:Hid (md=rl++el):=by
   show _=_;rw[←Hmd.out,←hrl,←hel];unfold zbs;rw[if_pos he]
  have Hrl:=zH hrl;have Hel:=zH hel;have HG:Hid (Gl.In ⟨x,y,(P x y).n,true⟩ s):=⟨by show(0:Int)<=x;omega,by show(x:Int)<s.W;have:=Hxy.out.1;omega,by show(0:Int)<=y;omega,by show(y:Int)<s.H;have:=Hxy.out.2;omega,Hfl.out.2.1⟩;have HW:Hid ((zj s rl).W=s.W/\(zj s rl).H=s.H/\l.length+rl.length<=1000000):=by
   obtain⟨p,e1,_,_,hl⟩:=zdm Hfl.out.1 HG.out;rw[Hrl.out] at e1 hl;have:=Hfl.out.2.2.1;rw[e1];exact⟨rfl,rfl,by omega⟩
  clear he hrl hel;go_wp2_with fail;go_region_held3 (λw'=>w'.cell? ⟨bp,1,none⟩=some (.pointer (some ⟨bs,0,none⟩))/\w'.cell? ⟨M,2,none⟩=some (.int .i64 (P x y).n.f)/\w'.cell? ⟨M,3,none⟩=some (.int .i64 (P x y).n.b)/\w'.cell? ⟨M,4,none⟩=some (.bool (P x y).n.bo)/\w'.cell? ⟨M,5,none⟩=some (.bool (P x y).n.un)/\w'.cell? ⟨M,6,none⟩=some (.bool (P x y).n.re)) (simp[*]) (first|(go_at_call 203;refine(zri bs bg g N s t ⟨x,y,(P x y).n,true⟩ _ (H1.out.2.2.1.scr.below (by first|exact Below.refl _ _|exact(Below.refl _ _).drew)) Hfl.out.1 HG.out).mono ?_;rintro e w7 ⟨rfl,hb7⟩;rw[Hrl.out];have hb8:=zL hb7;have e4:=hb8.cells (b:=bp) zb;have e5:=hb8.cells (b:=M) z1;have HB8:=zH<|hb8;clear hb7 hb8)|(go_at_call 198;refine(zjp m0 n1 bp po pc lb lc H P bs bg g N s l rl _ (H1.out.2.2.2.below (by first|exact HB8.out|exact HB8.out.drew)) Hfl.out.1.ok HW.out.2.2 HW.out.1 HW.out.2.1).mono ?_;rintro e w9 ⟨rfl,P9,hb9,A9⟩;have bM9:w9.heap[M]?=some (.cells #[.int .i32 (P x y).r,.int .i64 (P x y).p,.int .i64 (P x y).n.f,.int .i64 (P x y).n.b,.bool (P x y).n.bo,.bool (P x y).n.un,.bool (P x y).n.re] 38):=by {have b7:=(HB8.out.block M z1).trans H1.out.2.1;exact(A9 M _ _ _ b7 (by decide) HnM.out).trans b7};have c9:w9.cell? ⟨bp,1,none⟩=some (.pointer (some ⟨bs,0,none⟩)):=by {obtain⟨t9,pt9,_⟩:=P9.ex;exact pt9.c1};have m2:w9.cell? ⟨M,2,none⟩=some (.int .i64 (P x y).n.f):=za bM9 2;have m3:w9.cell? ⟨M,3,none⟩=some (.int .i64 (P x y).n.b):=za bM9 3;have m4:w9.cell? ⟨M,4,none⟩=some (.bool (P x y).n.bo):=za bM9 4;have m5:w9.cell? ⟨M,5,none⟩=some (.bool (P x y).n.un):=za bM9 5;have m6:w9.cell? ⟨M,6,none⟩=some (.bool (P x y).n.re):=za bM9 6;have m0':w9.cell? ⟨M,0,none⟩=some (.int .i32 (P x y).r):=za bM9 0;have H9:Hid (PaM w9 m0 n1 bp po pc lb lc H P bs bg g N (zj s rl) (l++rl)/\Below m0 w w9):=⟨P9,((H1.out.1.trans (HB8.out.mono H1.out.1.size)).mono Hm.out).trans hb9⟩;clear P9 hb9 A9 bM9));all_goals
   clear p0 p2 p3 p4 p5 p6 c1 m2 m3 m4 m5 m6 c9;go_wp2_with fail;have hE:Value.string (Utf8.encode (P x y).r)=zaD el:=by rw[←Hel.out];simp[zdd]
   rw[hE];go_at_call 198;refine(zjp m0 n1 bp po pc lb lc H P bs bg g N (zj s rl) (l++rl) el w9 H9.out.1 (zfp rl Hfl.out.1.ok) (by have h1:=Hfl.out.2.2.1;have h2:=Hfl.out.2.2.2.1;rw[Hdef.out,List.length_append] at h2;rw[List.length_append];omega) (by rw[←ZS,←Hdef.out,Hfl.out.2.2.2.2.1,HW.out.1]) (by rw[←ZS,←Hdef.out,Hfl.out.2.2.2.2.2,HW.out.2.1])).mono ?_;rintro e wZ ⟨rfl,PZ,hbZ,_⟩;rw[←ZS,List.append_assoc,←Hdef.out] at PZ;have HZ:Hid (PaM wZ m0 n1 bp po pc lb lc H P bs bg g N (zj s md) (l++md)/\Below m0 w wZ):=⟨PZ,H9.out.2.trans hbZ⟩;clear PZ hbZ;go_wp2_with fail;go_end0;exact⟨rfl,HZ.out⟩
 ·obtain⟨el,hel⟩:∃el,zaQ s P x y=el:=⟨_,rfl⟩;obtain⟨er,her⟩:∃er,zaR s (P x y).n.b=er:=⟨_,rfl⟩;obtain⟨rl,hrl⟩:∃rl,zb3 s ⟨x,y,er,false⟩=rl:=⟨_,rfl⟩;have Hdef:Hid (md=rl++el):=by
   show _=_;rw[←Hmd.out,←hrl,←her,←hel];unfold zbs;rw[if_neg he]
  have Hrl:=zH hrl;have Her:=zH her;have HG:Hid (Gl.In ⟨x,y,er,false⟩ s):=⟨by show(0:Int)<=x;omega,by show(x:Int)<s.W;have:=Hxy.out.1;omega,by show(0:Int)<=y;omega,by show(y:Int)<s.H;have:=Hxy.out.2;omega,by rw[←Her.out];exact⟨Hfl.out.1.pen.1,Hfl.out.1.pen.2.1,Hfl.out.2.1.2.2.1,Hfl.out.2.1.2.2.2⟩⟩;have HW:Hid ((zj s rl).W=s.W/\(zj s rl).H=s.H/\l.length+rl.length<=1000000):=by
   obtain⟨p,e1,_,_,hl⟩:=zdm Hfl.out.1 HG.out;rw[Hrl.out] at e1 hl;have:=Hfl.out.2.2.1;rw[e1];exact⟨rfl,rfl,by omega⟩
  rw[hel] at he ⊢;have hne:el.isEmpty=false:=by simpa using he
  clear he hrl hel her;go_wp2_with fail;go_region_held3 (λw'=>w'.cell? ⟨bp,1,none⟩=some (.pointer (some ⟨bs,0,none⟩))/\w'.cell? ⟨M,3,none⟩=some (.int .i64 (P x y).n.b)) (simp[*]) (first|(go_at_call 200;refine(znF bp po pc lb lc H P bs bg g N s t (P x y).n.b _ (H1.out.2.2.1.below (by first|exact Below.refl _ _|exact(Below.refl _ _).drew))).mono ?_;rintro e w6 ⟨rfl,hb6⟩;rw[Her.out];have hb8:=zL hb6;have e6:=hb8.cells (b:=bp) zb;have e7:=hb8.cells (b:=M) z1;have HB6:=zH<|hb8;have z6:bp<w6.heap.size/\M<w6.heap.size:=by {have:=hb8.size;omega};clear hb6 hb8)|(go_at_call 203;refine(zri bs bg g N s t ⟨x,y,er,false⟩ _ (H1.out.2.2.1.scr.below (by first|exact HB6.out|exact HB6.out.drew)) Hfl.out.1 HG.out).mono ?_;rintro e w7 ⟨rfl,hb7⟩;rw[Hrl.out];have e4:=hb7.cells (b:=bp) z6.1;have e5:=hb7.cells (b:=M) z6.2;have HB8:=zH<|HB6.out.trans (hb7.mono HB6.out.size);clear hb7)|(go_at_call 198;refine(zjp m0 n1 bp po pc lb lc H P bs bg g N s l rl _ (H1.out.2.2.2.below (by first|exact HB8.out|exact HB8.out.drew)) Hfl.out.1.ok HW.out.2.2 HW.out.1 HW.out.2.1).mono ?_;rintro e w9 ⟨rfl,P9,hb9,A9⟩;have bM9:w9.heap[M]?=some (.cells #[.int .i32 (P x y).r,.int .i64 (P x y).p,.int .i64 (P x y).n.f,.int .i64 (P x y).n.b,.bool (P x y).n.bo,.bool (P x y).n.un,.bool (P x y).n.re] 38):=by {have b7:=(HB8.out.block M z1).trans H1.out.2.1;exact(A9 M _ _ _ b7 (by decide) HnM.out).trans b7};have c9:w9.cell? ⟨bp,1,none⟩=some (.pointer (some ⟨bs,0,none⟩)):=by {obtain⟨t9,pt9,_⟩:=P9.ex;exact pt9.c1};have m3:w9.cell? ⟨M,3,none⟩=some (.int .i64 (P x y).n.b):=za bM9 3;have H9:Hid (PaM w9 m0 n1 bp po pc lb lc H P bs bg g N (zj s rl) (l++rl)/\Below m0 w w9):=⟨P9,((H1.out.1.trans (HB8.out.mono H1.out.1.size)).mono Hm.out).trans hb9⟩;clear P9 hb9 A9 bM9));all_goals
   clear p0 p2 p3 p4 p5 p6 c1 m3 c9 hne;go_wp2_with fail;go_at_call 198;refine(zjp m0 n1 bp po pc lb lc H P bs bg g N (zj s rl) (l++rl) el w9 H9.out.1 (zfp rl Hfl.out.1.ok) (by have h1:=Hfl.out.2.2.1;have h2:=Hfl.out.2.2.2.1;rw[Hdef.out,List.length_append] at h2;rw[List.length_append];omega) (by rw[←ZS,←Hdef.out,Hfl.out.2.2.2.2.1,HW.out.1]) (by rw[←ZS,←Hdef.out,Hfl.out.2.2.2.2.2,HW.out.2.1])).mono ?_;rintro e wZ ⟨rfl,PZ,hbZ,_⟩;rw[←ZS,List.append_assoc,←Hdef.out] at PZ;have HZ:Hid (PaM wZ m0 n1 bp po pc lb lc H P bs bg g N (zj s md) (l++md)/\Below m0 w wZ):=⟨PZ,H9.out.2.trans hbZ⟩;clear PZ hbZ;go_wp2_with fail
   (try simp only[Exit.inBlock,Exit.then])
   exact bodyPost_ret (v:=.tuple #[]) (results_none rfl _ _ _) rfl ⟨rfl,HZ.out⟩
def zfY (s:Rs) (P:Nat->Nat->zk) (l:Nat):Nat->Int × Nat
 |0=>zaw s P l
 |1=>zbl s P (zaw s P l) ((l+1:Nat):Int)
 |_+2=>zaw s P (l+1)
def zfZ (l:Nat):Nat->Int
 |0=>((l+1:Nat):Int)
 |_+1=>-((l+1:Nat):Int)
theorem zmN (s:Rs) (P:Nat->Nat->zk) (l:Nat) {k:Nat} (hk:k<2):zfY s P l (k+1)=zbl s P (zfY s P l k) (zfZ l k):=by
 match k,hk with
 |0,_=>rfl
 |1,_=>rfl
theorem zij (s:Rs) (P:Nat->Nat->zk) {st:Int × Nat} (h:st.2<=s.H*s.W) (n:Int):(zbl s P st n).2<=s.H*s.W:=by
 unfold zbl;split
 ·exact zd7 _ _
 ·exact h
theorem zik (s:Rs) (P:Nat->Nat->zk) (l:Nat):(zaw s P l).2<=s.H*s.W:=by
 induction l with
 |zero=>exact zd7 _ _
 |succ l ih=>exact zij s P (zij s P ih _) _
theorem zru (s:Rs) (P:Nat->Nat->zk) (l k:Nat):(zfY s P l k).2<=s.H*s.W:=by
 match k with
 |0=>exact zik s P l
 |1=>exact zij s P (zik s P l) _
 |_+2=>exact zik s P (l+1)
theorem zrv (bs bg g N:Nat) (s:Rs) (t:Pt) (po pc:Nat) (lb lc:Nat->Nat) (H:Nat) (P:Nat->Nat->zk) (w:World) (hp:zh w bs bg g N s t) (pic:PcM w po lb lc s.W H P) (hs:H=s.H) (ok:s.Ok):
 Calls Tryz.prog 158 #[.pointer (some ⟨bs,0,none⟩),.slice (some ⟨po,0,none⟩) H pc] w λe w'=>e=.returned (.int .i64 (zaw s P s.H).1)/\Below w.heap.size w w':=by
 have HH:Hid (zh w bs bg g N s t/\PcM w po lb lc s.W H P/\H=s.H/\s.Ok):=⟨hp,pic,hs,ok⟩;have hH:H<=20:=by have:=ok.h2;omega
 have hmul:=Nat.mul_le_mul ok.h2 ok.w2;have Hle:Hid (∀l k,(zfY s P l k).2<=800):=λl k=>Nat.le_trans (zru s P l k) hmul;have Hol:Hid (∀n,ZA s P n<=800):=λn=>Nat.le_trans (zd7 _ _) hmul;have HO:=zH<|λwx n hb a b=>ztb bs bg g N s t po pc lb lc H P n wx (hp.below hb) (pic.below hb) hs ok a b
 clear hp pic hs ok hmul;go_in;go_wp2_with fail;go_at_call 180;refine(HO.out w 0 (Below.refl _ _) (by omega) (by omega)).mono ?_;rintro e w1 ⟨rfl,hb1⟩;have HB1:=zH hb1;clear hb1;go_wp2_with fail;go_loopw[7,5,6] (λvl vb vf wr=>∃l:Nat,vl=.int .i64 ((l+1:Nat):Int)/\l<=H/\vb=.int .i64 (zaw s P l).1/\vf=.int .i64 ((zaw s P l).2:Nat)/\Below w.heap.size w wr) (λvl _ _ _=>H+1-(intOf vl).toNat)
 case atStart=>exact⟨0,rfl,Nat.zero_le _,rfl,rfl,HB1.out⟩
 case round=>
  obtain⟨l,rfl,hl,rfl,rfl,hbw⟩:=hrel;have HB:=zH hbw;clear hbw HB1;by_cases hc:l+1<=H
  ·have hc':((l+1:Nat):Int)<=(H:Int):=by omega
   obtain⟨ln,hln⟩:∃ln,l+1=ln:=⟨_,rfl⟩;have Hln:Hid (l+1=ln/\l+1<=H):=⟨hln,hc⟩;rw[hln] at hc' ⊢;have hl2:(ln:Int)<=20:=by omega
   have hl1:(0:Int)<(ln:Int):=by omega
   clear hln hc hl;go_wp2_with fail;have hA:∃wA M,wr.alloc (.cells #[.int .i64 (ln:Int),.int .i64 (-(ln:Int))] 3)=wA/\wr.heap.size=M/\Below wr.heap.size wr wA/\wA.heap[M]?=some (.cells #[.int .i64 (ln:Int),.int .i64 (-(ln:Int))] 3):=⟨_,_,rfl,rfl,(Below.refl _ _).alloc (Nat.le_refl _) _,zf _ _⟩;obtain⟨wA,M,hwA,hM,belA,bA⟩:=hA;rw[hwA];have zA:=(Array.getElem?_eq_some_iff.1 bA).1;have HA:Hid (Below wr.heap.size wr wA/\wA.heap[M]?=some (.cells #[.int .i64 (ln:Int),.int .i64 (-(ln:Int))] 3)):=⟨belA,bA⟩;have HM:=zH hM;try rw[hM]
   clear hwA belA bA hM;go_loopw[25,5,6] (λvi vb vf wi=>∃k:Nat,vi=.int .i64 k/\k<=2/\vb=.int .i64 (zfY s P l k).1/\vf=.int .i64 ((zfY s P l k).2:Nat)/\Below wA.heap.size wA wi) (λvi _ _ _=>2-(intOf vi).toNat)
   case atStart=>exact⟨0,rfl,Nat.zero_le _,rfl,rfl,Below.refl _ _⟩
   case round=>
    obtain⟨k,rfl,hk,rfl,rfl,hbi⟩:=hrel;have HBi:=zH hbi;have bM:=(hbi.block M zA).trans HA.out.2;have HBw:=zH<|(HB.out.trans (HA.out.1.mono HB.out.size)).trans (hbi.mono (by have:=HB.out.size;have:=HA.out.1.size;omega))
    clear hbi;by_cases hkc:k<2
    ·have hkc':(k:Int)<2:=by omega
     have hw:wr.cell? ⟨M,k,none⟩=some (.int .i64 (zfZ l k)):=by
      have e:=Hln.out.1;rw[za bM];match k,hkc with
      |0,_=>exact congrArg (λz:Nat=>some (Value.int .i64 (z:Int))) e.symm
      |1,_=>exact congrArg (λz:Nat=>some (Value.int .i64 (-(z:Int)))) e.symm
     have hwl:-100<zfZ l k/\zfZ l k<100:=by
      have e:=Hln.out.1;have:zfZ l k=ln\/zfZ l k = -ln:=by
       match k,hkc with
       |0,_=>left;unfold zfZ;rw[e]
       |1,_=>right;unfold zfZ;rw[e]
      omega
     have Hwl:=zH hwl;have Hst:=zH<|zmN s P l hkc
     have hle:=Hle.out l k;have hol:=Hol.out (zfZ l k);have Hkk:=zH hkc;obtain⟨st,hst⟩:∃st,zfY s P l k=st:=⟨_,rfl⟩;rw[hst] at Hst hle ⊢;clear hst hwl bM hkc hk;go_wp2_with fail;go_at_call 180;refine(HO.out wr (zfZ l k) HBw.out Hwl.out.1 Hwl.out.2).mono ?_;rintro e w9 ⟨rfl,hb9⟩;have HB9:=zH<|HBi.out.trans (hb9.mono HBi.out.size)
     obtain⟨on,hon⟩:∃on,ZA s P (zfZ l k)=on:=⟨_,rfl⟩;have Hdef:Hid (zbl s P st (zfZ l k)=if on<st.2 then(zfZ l k,on) else st):=by rw[←hon];rfl
     rw[hon] at hol ⊢;clear hb9 hon hw;by_cases hcmp:on<st.2
     ·have hcmp':(on:Int)<(st.2:Int):=by omega
      have Hd2:Hid (zfY s P l (k+1)=(zfZ l k,on)):=by
       show _=_;rw[Hst.out,Hdef.out,if_pos hcmp]
      clear hcmp;go_wp2_with fail;go_roundw
      case rel=>exact⟨k+1,by go_num,by have:=Hkk.out;omega,by rw[Hd2.out],by rw[Hd2.out],HB9.out⟩
      case measure=>simp[intOf];have:=Hkk.out;omega
     ·have hcmp':¬((on:Int)<(st.2:Int)):=by omega
      have Hd2:Hid (zfY s P l (k+1)=st):=by
       show _=_;rw[Hst.out,Hdef.out,if_neg hcmp]
      clear hcmp;go_wp2_with fail;go_roundw
      case rel=>exact⟨k+1,by go_num,by have:=Hkk.out;omega,by rw[Hd2.out],by rw[Hd2.out],HB9.out⟩
      case measure=>simp[intOf];have:=Hkk.out;omega
    ·have hkc':¬((k:Int)<2):=by omega
     have ek:k=2:=by omega
     have Hek:=zH ek;clear ek bM hk hkc;go_wp2_with fail;go_roundw
     case rel=>exact⟨ln,by go_num,by have:=Hln.out;omega,by rw[Hek.out,←Hln.out.1];rfl,by rw[Hek.out,←Hln.out.1];rfl,HBw.out⟩
     case measure=>simp[intOf];have:=Hln.out;omega
  ·have el:l=H:=by omega
   have hc':¬(((l+1:Nat):Int)<=(H:Int)):=by omega
   have Hel:Hid (l=s.H):=by rw[el];exact HH.out.2.2.1
   clear el hc hl;go_wp2_with fail;go_ret;exact⟨by rw[←Hel.out];rfl,HB.out⟩
end
end Go.Proofs.YtjlfibhbfdckpaaGreatDoor
