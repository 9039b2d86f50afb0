import Derived.Test.YtjlfibhbfdckpaaGreatDoorW32
namespace Go.Proofs.YtjlfibhbfdckpaaGreatDoor
set_option maxHeartbeats 64000000
set_option maxRecDepth 100000
section
open Go.RowKit Go.Maps
open Wd (wd)
attribute [local go_sem ↓] Go.wp_at_zero Go.wp_at_succ
abbrev zs4 (w:World) (D:Nat) (v:Wy):World:=((((((((((w.setCell ⟨D,0,none⟩ (.string ⟨v.b.toArray⟩)).setCell ⟨D,1,none⟩ (.int .i64 v.k)).setCell ⟨D,2,none⟩ (.int .i64 v.e.x)).setCell ⟨D,3,none⟩ (.int .i64 v.e.y)).setCell ⟨D,4,none⟩ (.bool v.e.pend)).setCell ⟨D,5,none⟩ (.int .i64 v.e.pen.f)).setCell ⟨D,6,none⟩ (.int .i64 v.e.pen.b)).setCell ⟨D,7,none⟩ (.bool v.e.pen.bo)).setCell ⟨D,8,none⟩ (.bool v.e.pen.un)).setCell ⟨D,9,none⟩ (.bool v.e.pen.re))
theorem zwa (a0 a1 a2 a3 a4 a5 a6 a7 a8 a9 x0 x1 x2 x3 x4 x5 x6 x7 x8 x9:Value):((((((((((#[a0,a1,a2,a3,a4,a5,a6,a7,a8,a9]:Array Value).setIfInBounds 0 x0).setIfInBounds 1 x1).setIfInBounds 2 x2).setIfInBounds 3 x3).setIfInBounds 4 x4).setIfInBounds 5 x5).setIfInBounds 6 x6).setIfInBounds 7 x7).setIfInBounds 8 x8).setIfInBounds 9 x9=#[x0,x1,x2,x3,x4,x5,x6,x7,x8,x9]:=by simp
theorem zpa {w:World} {D:Nat} {a0 a1 a2 a3 a4 a5 a6 a7 a8 a9:Value} {T:TypeId} (v:Wy) (h:w.heap[D]?=some (.cells #[a0,a1,a2,a3,a4,a5,a6,a7,a8,a9] T)):(zs4 w D v).heap[D]?=some (.cells (zcJ v) T):=by
 have h8:=zg (zg (zg (zg (zg (zg (zg (zg (zg (zg h 0 (.string ⟨v.b.toArray⟩)) 1 (.int .i64 v.k)) 2 (.int .i64 v.e.x)) 3 (.int .i64 v.e.y)) 4 (.bool v.e.pend)) 5 (.int .i64 v.e.pen.f)) 6 (.int .i64 v.e.pen.b)) 7 (.bool v.e.pen.bo)) 8 (.bool v.e.pen.un)) 9 (.bool v.e.pen.re);rw[zwa] at h8;exact h8
theorem zgn {F:Nat->Prop} {a w:World} (h:zd F a w) (D:Nat) (v:Wy) (hF:D<a.heap.size->F D):zd F a (zs4 w D v):=
 (((((((((h.setCell ⟨D,0,none⟩ _ hF).setCell ⟨D,1,none⟩ _ hF).setCell ⟨D,2,none⟩ _ hF).setCell ⟨D,3,none⟩ _ hF).setCell ⟨D,4,none⟩ _ hF).setCell ⟨D,5,none⟩ _ hF).setCell ⟨D,6,none⟩ _ hF).setCell ⟨D,7,none⟩ _ hF).setCell ⟨D,8,none⟩ _ hF).setCell ⟨D,9,none⟩ _ hF
theorem zal.gb {w:World} {bo base g cap:Nat} {L:List Wy} (h:zal w bo base g cap L):base<=g:=by
 obtain⟨_,_,_,_,_,q⟩:=zeK h.row;exact q
structure zcN (w0 w:World) (gl:Gl) (p0:Sp) (M P D base bo bm g cap:Nat) (kn:List Sp) (o:List Wy):Prop where
 hM:w.heap[M]?=some (.cells (zgP gl) 211)
 hP:w.heap[P]?=some (.cells (zeO p0) 235)
 hD:w.heap[D]?=some (.cells (zcJ (Zz gl)) 237)
 mb:M<base
 pb:P<base
 db:D<base
 wb:w0.heap.size<=base
 hp:zal w bo base g cap o
 bb:base<=bm
 no:bm≠bo
 ng:bm≠g
 set:w.ownsMap Tryz.prog 235 unitElem bm kn.length (zff kn)
 bel:Below w0.heap.size w0 w
section
variable {w0 w w':World} {gl:Gl} {p0:Sp} {M P D base bo bm g cap:Nat} {kn:List Sp} {o:List Wy}
theorem zcN.ml (h:zcN w0 w gl p0 M P D base bo bm g cap kn o):bm<w.heap.size:=by
 obtain⟨es,c,hb,_⟩:=h.set;exact(Array.getElem?_eq_some_iff.1 hb).1
theorem zcN.bl (h:zcN w0 w gl p0 M P D base bo bm g cap kn o):base<=w.heap.size:=Nat.le_trans h.bb (Nat.le_of_lt h.ml)
theorem zjj {D':DataW Unit} {n:Nat} (h:w.ownsMap Tryz.prog 235 unitElem bm n D') (e:w'.heap[bm]?=w.heap[bm]?):w'.ownsMap Tryz.prog 235 unitElem bm n D':=by
 obtain⟨es,c,hb,r⟩:=h;exact⟨es,c,e.trans hb,r⟩
theorem zcN.below (h:zcN w0 w gl p0 M P D base bo bm g cap kn o) (b:Below w.heap.size w w'):zcN w0 w' gl p0 M P D base bo bm g cap kn o:=
 have hl:=h.bl
 ⟨(b.block M (Nat.lt_of_lt_of_le h.mb hl)).trans h.hM,(b.block P (Nat.lt_of_lt_of_le h.pb hl)).trans h.hP,(b.block D (Nat.lt_of_lt_of_le h.db hl)).trans h.hD,h.mb,h.pb,h.db,h.wb,h.hp.same (b.block _ h.hp.lt) (b.block _ h.hp.glt),h.bb,h.no,h.ng,zjj h.set (b.block _ h.ml),h.bel.trans (b.mono (Nat.le_trans h.wb hl))⟩
theorem zcN.pushed (h:zcN w0 w gl p0 M P D base bo bm g cap kn o) {g' cap':Nat} {o':List Wy} (q:zal w' bo base g' cap' o') (k:zd (λi=>i=bo\/i=g) w w') (og:g'=g\/w.heap.size<=g'):zcN w0 w' gl p0 M P D base bo bm g' cap' kn o':=by
 have hl:=h.bl;have gb:=h.hp.gb;have ob:=h.hp.hb;have far:=fun {i} hi=>k.block i (Nat.lt_of_lt_of_le hi hl) (by omega);have ml:=h.ml;refine⟨(far h.mb).trans h.hM,(far h.pb).trans h.hP,(far h.db).trans h.hD,h.mb,h.pb,h.db,h.wb,q,h.bb,h.no,?_,zjj h.set (k.block bm ml ?_),?_⟩
 ·rcases og with e|e
  ·rw[e];exact h.ng
  ·omega
 ·rintro(e|e)
  ·exact h.no e
  ·exact h.ng e
 ·exact h.bel.trans (k.toBelow (Nat.le_trans h.wb hl) (λi hi=>by have:=h.wb;omega))
theorem zcN.known (h:zcN w0 w gl p0 M P D base bo bm g cap kn o) {p:Sp} (hg:w.grownBy w' (some bm)) (q:w'.ownsMap Tryz.prog 235 unitElem bm (kn.length+1) ((zff kn).put (zfe p) (.agg []))):zcN w0 w' gl p0 M P D base bo bm g cap (kn ++ [p]) o:=by
 have hl:=h.bl;have bb:=h.bb;have k:zd (λi=>i=bm) w w':=zd.grown (zd.refl _ w) hg (λi e _=>by injection e with e;exact e.symm);have far:=fun {i} hi=>k.block i (Nat.lt_of_lt_of_le hi hl) (by omega);refine⟨(far h.mb).trans h.hM,(far h.pb).trans h.hP,(far h.db).trans h.hD,h.mb,h.pb,h.db,h.wb,h.hp.keep k (λe=>h.no e.symm) (λe=>h.ng e.symm),h.bb,h.no,h.ng,?_,?_⟩
 ·rw[zmI,List.length_append];exact q
 ·exact h.bel.trans (k.toBelow (Nat.le_trans h.wb hl) (λi hi=>by have:=h.wb;omega))
theorem zre {wE:World} (hM:wE.heap[M]?=some (.cells (zgP gl) 211)) (hP:wE.heap[P]?=some (.cells (zeO p0) 235)) (hD:wE.heap[D]?=some (.cells (zcJ (Zz gl)) 237)) (hb:Below w0.heap.size w0 wE) (u v:Wy):
 zcN w0 (((wE.alloc (.cells #[.string ⟨u.b.toArray⟩,.int .i64 u.k,.int .i64 u.e.x,.int .i64 u.e.y,.bool u.e.pend,.int .i64 u.e.pen.f,.int .i64 u.e.pen.b,.bool u.e.pen.bo,.bool u.e.pen.un,.bool u.e.pen.re,.string ⟨v.b.toArray⟩,.int .i64 v.k,.int .i64 v.e.x,.int .i64 v.e.y,.bool v.e.pend,.int .i64 v.e.pen.f,.int .i64 v.e.pen.b,.bool v.e.pen.bo,.bool v.e.pen.un,.bool v.e.pen.re] 237)).alloc (.cells #[.slice (some ⟨wE.heap.size,0,none⟩) 2 2] 240)).alloc (.map #[] 0)) gl p0 M P D wE.heap.size (wE.heap.size+1) (wE.heap.size+2) wE.heap.size 2 [] [u,v]:=by
 have m1:=(Array.getElem?_eq_some_iff.1 hM).1;have p1:=(Array.getElem?_eq_some_iff.1 hP).1;have d1:=(Array.getElem?_eq_some_iff.1 hD).1;obtain⟨a1,e1⟩:∃a,wE.alloc (.cells #[.string ⟨u.b.toArray⟩,.int .i64 u.k,.int .i64 u.e.x,.int .i64 u.e.y,.bool u.e.pend,.int .i64 u.e.pen.f,.int .i64 u.e.pen.b,.bool u.e.pen.bo,.bool u.e.pen.un,.bool u.e.pen.re,.string ⟨v.b.toArray⟩,.int .i64 v.k,.int .i64 v.e.x,.int .i64 v.e.y,.bool v.e.pend,.int .i64 v.e.pen.f,.int .i64 v.e.pen.b,.bool v.e.pen.bo,.bool v.e.pen.un,.bool v.e.pen.re] 237)=a:=⟨_,rfl⟩;have z1:a1.heap.size=wE.heap.size+1:=by rw[←e1];simp
 have b1:=e1 ▸ (Below.refl _ _).alloc (Nat.le_refl _) _;have r1:zcA a1 wE.heap.size wE.heap.size 2 2 [u,v]:=by
  refine⟨by simp[ZG],.inr ⟨wE.heap.size,2,_,rfl,Nat.le_refl _,e1 ▸ zf wE _,Nat.le_refl _,by unfold maxLen;omega,rfl,?_⟩⟩;simp[ZG,zaD]
 rw[e1];clear e1;obtain⟨a2,e2⟩:∃a,a1.alloc (.cells #[.slice (some ⟨wE.heap.size,0,none⟩) 2 2] 240)=a:=⟨_,rfl⟩;have z2:a2.heap.size=wE.heap.size+2:=by rw[←e2];simp;omega
 have b2:=e2 ▸ (Below.refl _ _).alloc (Nat.le_refl _) _;have r2:a2.heap[wE.heap.size+1]?=some (.cells #[.slice (some ⟨wE.heap.size,0,none⟩) 2 2] 240):=by rw[←e2,←z1];exact zf a1 _
 rw[e2];clear e2;have b3:Below a2.heap.size a2 (a2.alloc (.map #[] 0)):=(Below.refl _ _).alloc (Nat.le_refl _) _;have bb:=(b1.trans (b2.mono (by omega))).trans (b3.mono (by omega));have mm:=World.ownsMap_made a2 Tryz.prog 235 (unitElem (H:=Unit));rw[z2] at mm;refine⟨(bb.block M m1).trans hM,(bb.block P p1).trans hP,(bb.block D d1).trans hD,m1,p1,d1,hb.size,⟨(b3.block _ (by omega)).trans r2,?_,by omega,by omega⟩,by omega,by omega,by omega,mm,hb.trans (bb.mono hb.size)⟩;exact ZH r1 (λi e=>by
  have e:wE.heap.size=i:=by injection e
  rw[←e];exact(b3.block _ (by omega)).trans (b2.block _ (by omega)))
end
theorem zjk {s:Rs} (ok:s.Ok):zeF s<=25602:=by
 have h1:=ok.w2;have h2:=ok.h2;have:s.H*s.W<=20*40:=Nat.mul_le_mul (by omega) (by omega);unfold zeF;omega
theorem zrf (b:List UInt8) (k:Nat) (hk:k<=b.length) (w:World):(Instr.slice 9 (.string ⟨b.toArray⟩) none (some (.int .i64 k)) none).run Tryz.prog w=.ok (.string ⟨(b.take k).toArray⟩) w:=by
 refine(run_slice_string_h w 9 ⟨b.toArray⟩ Tryz.underlying9 .i64 (k:Int) (by omega) (by show(k:Int)<=(b.length:Int);omega)).trans ?_;have:(⟨b.toArray⟩:ByteArray).extract 0 (k:Int).toNat=⟨(b.take k).toArray⟩:=by
  apply ByteArray.ext;simp[ByteArray.data_extract]
 rw[this]
theorem zrg (b:List UInt8) (k:Nat) (hk:k<=b.length) (w:World):(Instr.slice 9 (.string ⟨b.toArray⟩) (some (.int .i64 k)) none none).run Tryz.prog w=.ok (.string ⟨(b.drop k).toArray⟩) w:=by
 refine(run_slice_string_l w 9 ⟨b.toArray⟩ Tryz.underlying9 .i64 (k:Int) (by omega) (by show(k:Int)<=(b.length:Int);omega)).trans ?_;have:(⟨b.toArray⟩:ByteArray).extract (k:Int).toNat (⟨b.toArray⟩:ByteArray).size=⟨(b.drop k).toArray⟩:=by
  have hz:(⟨b.toArray⟩:ByteArray).size=b.length:=rfl;apply ByteArray.ext;rw[hz];simp[ByteArray.data_extract];exact List.take_of_length_le (by rw[List.length_drop];omega)
 rw[this]
theorem zif {s:Rs} {gl:Gl} (fl:s.Fl) (hg:gl.In s) {p:Sp} (h:zhT s gl p):p.Fits:=by
 have a:=h.1;have b1:=fl.ok.w2;have b2:=fl.ok.h2;have x0:=a.x0;have x1:=a.x1;have y0:=a.y0;have y1:=a.y1;have pn:p.pen.Ok:=by
  rcases h.2 with e|e
  ·rw[e];exact fl.pen
  ·rw[e];exact hg.pen
 obtain⟨c1,c2,c3,c4⟩:=pn;exact zs3 ⟨by omega,by omega⟩ ⟨by omega,by omega⟩ ⟨by omega,by omega⟩ ⟨by omega,by omega⟩
theorem zrh {L:List Wy} {j:Nat} (hj:j<L.length):gW L j=L[j]:=by simp[gW,List.getD,hj]
theorem zfW {n:Nat} {v:Wy} {L:List Wy} {j:Nat} (o:List Wy) (hj:j<L.length):zaC n v (L.take (j+1)) o=if (zaF v (gW L j)).b.length<n then zfc (zaC n v (L.take j) o) (zaF v (gW L j)) else zaC n v (L.take j) o:=by
 unfold zaC;rw[List.take_succ_eq_append_getElem hj,List.foldl_append,zrh hj];rfl
theorem zlx {s:Rs} {f:Sp} {g:Gl} (ok:s.Ok) (hf:f.In s) (hg:g.In s):∀st∈zbr s f g,st.b.length<=100:=by
 have b1:=ok.w2;have b2:=ok.h2;have x0:=hf.x0;have x1:=hf.x1;have y0:=hf.y0;have y1:=hf.y1;have gx0:=hg.x0;have gx1:=hg.x1;have gy0:=hg.y0;have gy1:=hg.y1;intro st hst;unfold zbr zaZ at hst;simp only[List.mem_append,List.mem_cons,List.not_mem_nil,or_false] at hst;rcases hst with(((h|h)|h)|h)|h
 ·rcases h with h|h|h<;>subst h<;>simp
 ·split at h
  ·simp only[List.mem_cons,List.not_mem_nil,or_false] at h;subst h;simp
  ·cases h
 ·split at h
  ·cases h
  ·simp only[List.mem_cons,List.not_mem_nil,or_false] at h;subst h;exact Nat.le_trans (zgb (by omega) (by omega) _ _) (by omega)
 ·split at h
  ·cases h
  ·simp only[List.mem_cons,List.not_mem_nil,or_false] at h;subst h;exact Nat.le_trans (zgb (by omega) (by omega) _ _) (by omega)
 ·split at h
  ·split at h
   ·cases h
   ·simp only[List.mem_cons,List.not_mem_nil,or_false] at h;subst h;exact Nat.le_trans (znu _) (by omega)
  ·cases h
theorem zjl (w:World):(zeroValue 244).run Tryz.prog w=.ok (.agg #[]) w:=by kernel_rfl
theorem zri (bs bg g N:Nat) (s:Rs) (t:Pt) (gl:Gl) (w:World) (h:zh w bs bg g N s t) (fl:s.Fl) (hg:gl.In s):
 Calls Tryz.prog 203 #[.pointer (some ⟨bs,0,none⟩),gl.agg] w λe w'=>e=.returned (zaD (zb3 s gl))/\Below w.heap.size w w':=by
 have ok:=fl.ok;have x0:=hg.x0;have y0:=hg.y0;have x1:gl.x<40:=by have:=hg.x1;have:=ok.w2;omega
 have y1:gl.y<20:=by have:=hg.y1;have:=ok.h2;omega
 obtain⟨M,hM⟩:∃M,w.heap.size=M:=⟨_,rfl⟩;have HM:=zH hM;have HP:=zH h;have Hok:Hid (s.Fl/\gl.In s):=⟨fl,hg⟩;clear h ok fl hg;go_in;go_wp2_with fail;have hA:∃wA,w.alloc (.cells (zgP gl) 211)=wA/\wA.heap.size=M+1/\wA.heap[M]?=some (.cells (zgP gl) 211)/\Below w.heap.size w wA:=by
  subst hM;exact⟨_,rfl,by simp,zf _ _,(Below.refl _ _).alloc (Nat.le_refl _) _⟩
 obtain⟨wA,hwA,zA,bA,belA⟩:=hA;rw[hwA];have HbA:=zH bA;have HbelA:=zH belA;have HPA:=zH<|HP.out.below belA
 clear hwA bA belA;go_at_call 63;refine(zj7 bs bg g N s t wA HPA.out).mono ?_;rintro e w1 ⟨rfl,hb1⟩;have HB1:=zH<|HbelA.out.trans (hb1.mono (by have:=HM.out;omega))
 have Hb1:=zH<|(hb1.block M (by omega)).trans HbA.out
 have z1:M<w1.heap.size:=by have:=hb1.size;omega
 clear hb1 HbA HbelA HPA;generalize (decide (t.mode=0)&&decide (t.bn=0))=gb at *;go_upto_region 3 with fail
 have hP2:∃wP P,(w1.alloc (.cells #[.int .i64 s.W,.int .i64 s.H,.int .i64 s.x,.int .i64 s.y,.bool s.pend,.int .i64 s.pen.f,.int .i64 s.pen.b,.bool s.pen.bo,.bool s.pen.un,.bool s.pen.re,.int .i64 s.top,.int .i64 s.bot,.bool gb] 59)).alloc (.cells #[.int .i64 s.x,.int .i64 s.y,.bool s.pend,.int .i64 s.pen.f,.int .i64 s.pen.b,.bool s.pen.bo,.bool s.pen.un,.bool s.pen.re] 235)=wP/\w1.heap.size+1=P/\wP.heap.size=P+1/\wP.heap[M]?=some (.cells (zgP gl) 211)/\wP.heap[P]?=some (.cells (zeO s.sp) 235)/\Below w.heap.size w wP/\M<P:=by
  refine⟨_,w1.heap.size+1,rfl,rfl,by simp,?_,ZM _ _ (by simp),(HB1.out.alloc HB1.out.size _).alloc (by have:=HB1.out.size;simp;omega) _,by omega⟩;rw[zN _ _ (by simp;omega),zN _ _ z1];exact Hb1.out
 obtain⟨wP,P,hwP,hPe,zP,bM,bP,belP,hMP⟩:=hP2;rw[hwP,hPe];have HbM:=zH bM;have HbP:=zH bP;have HBP:=zH belP;have g0:wP.cell? ⟨M,0,none⟩=some (.int .i64 gl.x):=za bM 0;have g1:wP.cell? ⟨M,1,none⟩=some (.int .i64 gl.y):=za bM 1;have g2:wP.cell? ⟨M,2,none⟩=some (.int .i64 gl.pen.f):=za bM 2;have g3:wP.cell? ⟨M,3,none⟩=some (.int .i64 gl.pen.b):=za bM 3;have g4:wP.cell? ⟨M,4,none⟩=some (.bool gl.pen.bo):=za bM 4;have g5:wP.cell? ⟨M,5,none⟩=some (.bool gl.pen.un):=za bM 5;have g6:wP.cell? ⟨M,6,none⟩=some (.bool gl.pen.re):=za bM 6;clear hwP bM bP belP HB1 Hb1 z1 hPe;have zM:M<P+1:=by omega
 have nM1:¬M=P+1:=by omega
 have nM2:¬P+1=M:=by omega
 go_cut[7] (λv wc=>∃D,v=.pointer (some ⟨D,0,none⟩)/\wc.heap[D]?=some (.cells (zcJ (Zz gl)) 237)/\wc.heap[M]?=some (.cells (zgP gl) 211)/\wc.heap[P]?=some (.cells (zeO s.sp) 235)/\Below w.heap.size w wc)
 case first=>
  go_region_held3 (λw'=>w'.cell? ⟨M,0,none⟩=some (.int .i64 gl.x)/\w'.cell? ⟨M,1,none⟩=some (.int .i64 gl.y)/\w'.cell? ⟨M,2,none⟩=some (.int .i64 gl.pen.f)/\w'.cell? ⟨M,3,none⟩=some (.int .i64 gl.pen.b)/\w'.cell? ⟨M,4,none⟩=some (.bool gl.pen.bo)/\w'.cell? ⟨M,5,none⟩=some (.bool gl.pen.un)/\w'.cell? ⟨M,6,none⟩=some (.bool gl.pen.re)) (simp[*,zdL,World.cell?_setCell_far]) (first|(go_at_call 222;refine(zuw gl.x gl.y _ x0 x1 y0 y1).mono ?_;rintro e w5 ⟨rfl,hb5⟩;have hb6:=zL hb5;have e1:=hb6.cells (b:=M) (by first|omega|(simp;omega));have HB6:Hid (Below wP.heap.size wP w5):=(by first|exact hb6|exact((Below.refl _ _).alloc (Nat.le_refl _) _).trans (hb6.mono (by simp)));have z6:P<w5.heap.size:=(by have:=HB6.out.size;omega);have z7:M<w5.heap.size:=(by omega);(first|(have e3:=hb6.cells (b:=P+1) (by simp;omega);have e4:=hb6.marks (b:=P+1) (by simp;omega);have HD:Hid (w5.heap[P+1]?=some (.cells #[.string ⟨#[]⟩,.int .i64 0,.int .i64 0,.int .i64 0,.bool false,.int .i64 0,.int .i64 0,.bool false,.bool false,.bool false] 237)):=(hb6.block (P+1) (by simp;omega)).trans (ZM _ _ (by omega)))|skip);clear hb5));all_goals
   first
    |(have hd:=HD.out
      obtain⟨wE,hwE⟩:∃wE,zs4 w5 (P+1) (Zz gl)=wE:=⟨_,rfl⟩;have E1:=zH<|hwE ▸ zpa _ hd
      have E2:=zH<|hwE ▸ ((zgn (zd.refl (λi=>i=P+1) w5) (P+1) (Zz gl) (λ_=>rfl)).block M z7 (by omega)).trans ((HB6.out.block M (by omega)).trans HbM.out)
      have E5:=zH<|hwE ▸ ((zgn (zd.refl (λi=>i=P+1) w5) (P+1) (Zz gl) (λ_=>rfl)).block P z6 (by omega)).trans ((HB6.out.block P (by omega)).trans HbP.out)
      have E3:=zH<|hwE ▸ zlu ((zgn (zd.refl (λi=>i=P+1) w5) (P+1) (Zz gl) (λ_=>rfl)).toBelow (B:=w.heap.size) (by omega) (λi hi e=>by have:=HM.out;omega)) HBP.out HB6.out
      simp only[zs4,Zz,Int.natCast_zero] at hwE;rw[hwE];clear hwE hd HD e3 e4;go_wp2_with fail;go_meet
      case rel=>exact⟨_,rfl,E1.out,E2.out,E5.out,E3.out⟩)
    |(obtain⟨wE,hwE⟩:∃wE,w5.alloc (.cells (zcJ (Zz gl)) 237)=wE:=⟨_,rfl⟩
      have E1:=zH<|hwE ▸ zf _ _
      have E2:=zH<|hwE ▸ (zN _ _ z7).trans ((HB6.out.block M (by omega)).trans HbM.out)
      have E5:=zH<|hwE ▸ (zN _ _ z6).trans ((HB6.out.block P (by omega)).trans HbP.out)
      have E3:=zH<|hwE ▸ (HBP.out.trans (HB6.out.mono HBP.out.size)).alloc (Nat.le_trans HBP.out.size HB6.out.size) _
      simp only[Zz,zcJ,Int.natCast_zero] at hwE;rw[hwE];clear hwE;go_wp2_with fail;go_meet
      case rel=>exact⟨_,rfl,E1.out,E2.out,E5.out,E3.out⟩)
 case rest=>
  obtain⟨D,rfl,hD,hM3,hP3,hB3⟩:=hcut;have HD:=zH hD;have HM3:=zH hM3;have HP3:=zH hP3;have HB3:=zH hB3;have s0:wc.cell? ⟨P,0,none⟩=some (.int .i64 s.sp.x):=za hP3 0;have s1:wc.cell? ⟨P,1,none⟩=some (.int .i64 s.sp.y):=za hP3 1;have s2:wc.cell? ⟨P,2,none⟩=some (.bool s.sp.pend):=za hP3 2;have s3:wc.cell? ⟨P,3,none⟩=some (.int .i64 s.sp.pen.f):=za hP3 3;have s4:wc.cell? ⟨P,4,none⟩=some (.int .i64 s.sp.pen.b):=za hP3 4;have s5:wc.cell? ⟨P,5,none⟩=some (.bool s.sp.pen.bo):=za hP3 5;have s6:wc.cell? ⟨P,6,none⟩=some (.bool s.sp.pen.un):=za hP3 6;have s7:wc.cell? ⟨P,7,none⟩=some (.bool s.sp.pen.re):=za hP3 7;obtain⟨v,hv⟩:∃v,Zz gl=v:=⟨_,rfl⟩;have Hv:=zH hv;rw[hv] at hD;have d0:wc.cell? ⟨D,0,none⟩=some (.string ⟨v.b.toArray⟩):=za hD 0;have d1:wc.cell? ⟨D,1,none⟩=some (.int .i64 v.k):=za hD 1;have d2:wc.cell? ⟨D,2,none⟩=some (.int .i64 v.e.x):=za hD 2;have d3:wc.cell? ⟨D,3,none⟩=some (.int .i64 v.e.y):=za hD 3;have d4:wc.cell? ⟨D,4,none⟩=some (.bool v.e.pend):=za hD 4;have d5:wc.cell? ⟨D,5,none⟩=some (.int .i64 v.e.pen.f):=za hD 5;have d6:wc.cell? ⟨D,6,none⟩=some (.int .i64 v.e.pen.b):=za hD 6;have d7:wc.cell? ⟨D,7,none⟩=some (.bool v.e.pen.bo):=za hD 7;have d8:wc.cell? ⟨D,8,none⟩=some (.bool v.e.pen.un):=za hD 8;have d9:wc.cell? ⟨D,9,none⟩=some (.bool v.e.pen.re):=za hD 9;clear hD hM3 hP3 hB3 hv g0 g1 g2 g3 g4 g5 g6 HbM HbP HBP zP zA zM nM1 nM2;have hmm:=@run_makeMap Tryz.prog;go_wp2_with fail;have hst:zcN w _ gl s.sp M P D wc.heap.size (wc.heap.size+1) (wc.heap.size+1+1) wc.heap.size 2 [] [⟨[],0,s.sp⟩,v]:=zre HM3.out HP3.out HD.out HB3.out ⟨[],0,s.sp⟩ v;simp only[Int.natCast_zero] at hst;generalize World.alloc _ (Obj.map #[] 0)=wL at hst ⊢;clear HD HM3 HP3 HB3 s0 s1 s2 s3 s4 s5 s6 s7 d0 d1 d2 d3 d4 d5 d6 d7 d8 d9 hmm;generalize wc.heap.size+1=bo at hst ⊢;generalize bo+1=bm at hst ⊢;generalize wc.heap.size=base at hst ⊢;have HS:Hid (zcN w wL gl s.sp M P D base bo bm base 2 [] (zd6 s gl)):=by
   have e:zd6 s gl=[⟨[],0,s.sp⟩,v]:=by rw[←Hv.out];rfl
   show zcN w wL gl s.sp M P D base bo bm base 2 [] (zd6 s gl);rw[e];exact hst
  clear hst Hv wc;go_loopg [] (zeF s) (λk wr=>k<=zeF s/\∃g2 cap kn o,zcN w wr gl s.sp M P D base bo bm g2 cap kn o/\zc7 s gl o kn/\zcE s o kn<=k/\zds s gl k o kn=zb3 s gl)
  case atStart=>exact⟨Nat.le_refl _,base,2,[],_,HS.out,(zgg Hok.out.1 Hok.out.2).1,(zgg Hok.out.1 Hok.out.2).2,rfl⟩
  case round=>
   clear HS wL;obtain⟨hk,g2,cap,kn,o,hR,hI,hr,hf⟩:=hrel;have hne:=hI.ne;have hl1:1<=o.length:=List.length_pos_iff.2 hne;have hl2:=Nat.le_trans (Nat.le_add_left _ _) hr;obtain⟨k,rfl⟩:∃k,gk=k+1:=⟨gk-1,by omega⟩;have hz:=Nat.le_trans hl2 (Nat.le_trans hk (zjk Hok.out.1.ok));have HR:=zH hR;have HI:Hid (zc7 s gl o kn/\zcE s o kn<=k+1/\zds s gl (k+1) o kn=zb3 s gl/\o≠[]):=⟨hI,hr,hf,hne⟩;have hok:=hI.pop.1;have hta:=znz (zbD o);obtain⟨v,hv⟩:∃v,zbD o=v:=⟨_,rfl⟩;have Hv:=zH hv;rw[hv] at hok hta;have Hokv:=zH hok;have hlt:=hR.hp.lt;have hgl:=hR.hp.glt;have hml:=hR.ml;clear hR hI hr hf hne hok hv;go_upto_region 6 with fail
   go_wp2_with fail;go_at_call 223;refine(zvY bo base g2 cap o _ HR.out.hp HI.out.2.2.2 (by omega)).mono ?_;rintro e w5 ⟨rfl,h5,k5⟩;rw[Hv.out];have H5:=zH<|HR.out.pushed h5 k5 (.inl rfl)
   have z5:=k5.size;clear h5 k5;go_upto_region 7 with fail
   have hX:∃wX X,w5.alloc (.cells (zcJ v) 237)=wX/\w5.heap.size=X/\zcN w wX gl s.sp M P D base bo bm g2 cap kn (zcL o)/\wX.heap[X]?=some (.cells (zcJ v) 237)/\X<wX.heap.size:=⟨_,_,rfl,rfl,H5.out.below ((Below.refl _ _).alloc (Nat.le_refl _) _),zf _ _,by simp⟩;obtain⟨wX,X,hwX,hXe,hX1,bX,zX⟩:=hX;simp only[zcJ] at hwX;rw[hwX,hXe];rw[hXe] at z5;have HX:=zH hX1;have HbX:=zH bX;have q0:wX.cell? ⟨X,0,none⟩=some (.string ⟨v.b.toArray⟩):=za bX 0;have q1:wX.cell? ⟨X,1,none⟩=some (.int .i64 v.k):=za bX 1;have q2:wX.cell? ⟨X,2,none⟩=some (.int .i64 v.e.x):=za bX 2;have q3:wX.cell? ⟨X,3,none⟩=some (.int .i64 v.e.y):=za bX 3;have q4:wX.cell? ⟨X,4,none⟩=some (.bool v.e.pend):=za bX 4;have q5:wX.cell? ⟨X,5,none⟩=some (.int .i64 v.e.pen.f):=za bX 5;have q6:wX.cell? ⟨X,6,none⟩=some (.int .i64 v.e.pen.b):=za bX 6;have q7:wX.cell? ⟨X,7,none⟩=some (.bool v.e.pen.bo):=za bX 7;have q8:wX.cell? ⟨X,8,none⟩=some (.bool v.e.pen.un):=za bX 8;have q9:wX.cell? ⟨X,9,none⟩=some (.bool v.e.pen.re):=za bX 9;have m0:wX.cell? ⟨M,0,none⟩=some (.int .i64 gl.x):=za hX1.hM 0;have m1:wX.cell? ⟨M,1,none⟩=some (.int .i64 gl.y):=za hX1.hM 1;have m2:wX.cell? ⟨M,2,none⟩=some (.int .i64 gl.pen.f):=za hX1.hM 2;have m3:wX.cell? ⟨M,3,none⟩=some (.int .i64 gl.pen.b):=za hX1.hM 3;have m4:wX.cell? ⟨M,4,none⟩=some (.bool gl.pen.bo):=za hX1.hM 4;have m5:wX.cell? ⟨M,5,none⟩=some (.bool gl.pen.un):=za hX1.hM 5;have m6:wX.cell? ⟨M,6,none⟩=some (.bool gl.pen.re):=za hX1.hM 6;have m7:wX.cell? ⟨M,7,none⟩=some (.bool gl.letter):=za hX1.hM 7;have s3:wX.cell? ⟨P,3,none⟩=some (.int .i64 s.pen.f):=za hX1.hP 3;have s4:wX.cell? ⟨P,4,none⟩=some (.int .i64 s.pen.b):=za hX1.hP 4;have s5:wX.cell? ⟨P,5,none⟩=some (.bool s.pen.bo):=za hX1.hP 5;have s6:wX.cell? ⟨P,6,none⟩=some (.bool s.pen.un):=za hX1.hP 6;have s7:wX.cell? ⟨P,7,none⟩=some (.bool s.pen.re):=za hX1.hP 7;have zM:=Nat.lt_of_lt_of_le hX1.mb hX1.bl;have zP:=Nat.lt_of_lt_of_le hX1.pb hX1.bl;clear hX1 bX hwX hXe H5;go_wp2_with fail;go_at_call 224;refine(zvQ gl v.e wX Hokv.out.inn.y0 (by have:=Hokv.out.inn.y1;have:=Hok.out.1.ok.h2;omega)).mono ?_;rintro e w6 ⟨rfl,hb6⟩;have HX6:=zH<|HX.out.below hb6
   have HbX6:=zH<|(hb6.block X zX).trans HbX.out
   have e1:=hb6.cells (b:=M) zM;have e2:=hb6.cells (b:=X) zX;have e3:=hb6.cells (b:=P) zP;simp only[←e1] at m0 m1 m2 m3 m4 m5 m6 m7;simp only[←e2] at q0 q1 q2 q3 q4 q5 q6 q7 q8 q9;simp only[←e3] at s3 s4 s5 s6 s7;have z6:=hb6.size;clear hb6 e1 e2 e3 HX HbX;cases hat:gl.isAt v.e with
   |true=>
    have Hout:Hid (zb3 s gl=zfP s gl v):=by
     have:=HI.out.2.2.1;rw[zds,Hv.out,if_pos hat] at this;exact this.symm
    have hk1:=Hokv.out.k;have hk2:v.b.length<=1000:=by have:=Hokv.out.len;have:=zga x1 y1;omega
    have t1:=zrf v.b v.k hk1;have t2:=zrg v.b v.k hk1;obtain⟨A,hA⟩:∃A,v.b.take v.k=A:=⟨_,rfl⟩;obtain⟨C,hC⟩:∃C,v.b.drop v.k=C:=⟨_,rfl⟩;obtain⟨B,hB⟩:∃B,zcD s.pen gl.pen=B:=⟨_,rfl⟩;have HABC:Hid (zb3 s gl=A++B++C/\zcD s.pen gl.pen=B):=⟨by rw[Hout.out,←hA,←hB,←hC];rfl,hB⟩;have hlA:A.length<=1000:=by rw[←hA,List.length_take];omega
    have hlC:C.length<=1000:=by rw[←hC,List.length_drop];omega
    have hlB:B.length<=20:=by rw[←hB];exact zkZ _ Hok.out.2.pen
    rw[hA] at t1;rw[hC] at t2;have hb1:(({data:=A.toArray}:ByteArray) ++ {data:=B.toArray})={data:=(A++B).toArray}:=zdK _ _;have hb2:(({data:=(A++B).toArray}:ByteArray) ++ {data:=C.toArray})={data:=(A++B++C).toArray}:=zdK _ _;have hs1:(({data:=A.toArray}:ByteArray).size+({data:=B.toArray}:ByteArray).size)<=2000:=by show A.length+B.length<=2000;omega
    have hs2:(({data:=(A++B).toArray}:ByteArray).size+({data:=C.toArray}:ByteArray).size)<=3000:=by show(A++B).length+C.length<=3000;rw[List.length_append];omega
    have hn1:¬(9223372036854775807<(({data:=A.toArray}:ByteArray).size+({data:=B.toArray}:ByteArray).size)):=by omega
    have hn2:¬(9223372036854775807<(({data:=(A++B).toArray}:ByteArray).size+({data:=C.toArray}:ByteArray).size)):=by omega
    have ha1:∀w,Sem.run Tryz.prog (Op.stringOp .add ⟨A.toArray⟩ ⟨B.toArray⟩) w=.ok (.string ⟨(A++B).toArray⟩) w:=λw=>by rw[run_string_add_sum w _ _ (by omega),hb1]
    have ha2:∀w,Sem.run Tryz.prog (Op.stringOp .add ⟨(A++B).toArray⟩ ⟨C.toArray⟩) w=.ok (.string ⟨(A++B++C).toArray⟩) w:=λw=>by rw[run_string_add_sum w _ _ (by omega),hb2]
    generalize A++B++C=AC at HABC hb2 ha2;generalize A++B=AB at hb1 hb2 hs2 hn2 ha1 ha2;clear hA hB hC hlA hlB hlC hk1 hk2 hs1 hs2;go_wp2_with fail;go_region_held3 (λw'=>w'.cell? ⟨M,2,none⟩=some (.int .i64 gl.pen.f)/\w'.cell? ⟨M,3,none⟩=some (.int .i64 gl.pen.b)/\w'.cell? ⟨M,4,none⟩=some (.bool gl.pen.bo)/\w'.cell? ⟨M,5,none⟩=some (.bool gl.pen.un)/\w'.cell? ⟨M,6,none⟩=some (.bool gl.pen.re)/\w'.cell? ⟨P,3,none⟩=some (.int .i64 s.pen.f)/\w'.cell? ⟨P,4,none⟩=some (.int .i64 s.pen.b)/\w'.cell? ⟨P,5,none⟩=some (.bool s.pen.bo)/\w'.cell? ⟨P,6,none⟩=some (.bool s.pen.un)/\w'.cell? ⟨P,7,none⟩=some (.bool s.pen.re)/\w'.cell? ⟨X,0,none⟩=some (.string ⟨v.b.toArray⟩)/\w'.cell? ⟨X,1,none⟩=some (.int .i64 v.k)) (simp[*]) (first|(go_at_call 199;refine(zh0 s.pen gl.pen _ Hok.out.2.pen).mono ?_;rintro e w7 ⟨rfl,hb7⟩;rw[HABC.out.2];have hb8:=zL hb7;have e4:=hb8.cells (b:=M) (by omega);have e5:=hb8.cells (b:=P) (by omega);have e6:=hb8.cells (b:=X) (by omega);have HB8:=zH<|hb8;clear hb7 hb8));go_wp2_with fail;go_ret;exact⟨by rw[HABC.out.1];rfl,HX6.out.bel.trans (HB8.out.mono HX6.out.bel.size)⟩
   |false=>
    clear s3 s4 s5 s6 s7;have hfit:=zif Hok.out.1 Hok.out.2 ⟨Hokv.out.inn,Hokv.out.pen⟩;have Hkf:Hid ((∀q∈kn,q.Fits)/\v.e.Fits):=⟨λq hq=>zif Hok.out.1 Hok.out.2 (HI.out.1.kn q hq),hfit⟩;have HKY:=zH<|zfw hfit
    clear hfit;have Hat:=zH hat;cases hkb:zeE kn v.e with
    |true=>
     have Hkb:=zH hkb;go_upto_region 9 with fail
     go_wp2_with (at_lookup;refine wpList_lookup_own_unit _ rfl _ _ 241 rfl 235 244 zfU Tryz.underlying241 (zjl _) bm kn.length (zff kn) rfl HX6.out.set _ (zfe v.e) rfl HKY.out ?_;rw[zji Hkf.out.1 Hkf.out.2,Hkb.out]);go_roundg k
     case measure=>omega
     case rel=>
      have a:=HI.out.1.known (by rw[Hv.out];exact Hat.out);have b:=HI.out.2.2.1;rw[zds,Hv.out,if_neg (by rw[Hat.out];decide),if_pos Hkb.out] at b;exact⟨by omega,g2,cap,kn,zcL o,HX6.out.below ((Below.refl _ _).alloc (Nat.le_refl _) _),a.1,by have:=a.2;have:=HI.out.2.1;omega,b⟩
    |false=>
     have Hkb:=zH hkb;go_upto_region 9 with fail
     go_upto_region 11 with(at_lookup;refine wpList_lookup_own_unit _ rfl _ _ 241 rfl 235 244 zfU Tryz.underlying241 (zjl _) bm kn.length (zff kn) rfl HX6.out.set _ (zfe v.e) rfl HKY.out ?_;rw[zji Hkf.out.1 Hkf.out.2,Hkb.out])
     obtain⟨w7,hw7⟩:∃w7,w6.alloc (.cells #[] 244)=w7:=⟨_,rfl⟩;have b7:=hw7 ▸ (Below.refl _ _).alloc (Nat.le_refl _) _;rw[hw7];have H7:=zH<|HX6.out.below b7
     have HbX7:=zH<|(b7.block X (by omega)).trans HbX6.out
     have e1:=b7.cells (b:=M) (by omega);have e2:=b7.cells (b:=X) (by omega);simp only[←e1] at m0 m1 m2 m3 m4 m5 m6 m7;simp only[←e2] at q0 q1 q2 q3 q4 q5 q6 q7 q8 q9;have z7:=b7.size;clear b7 hw7 e1 e2 HX6 HbX6;have hnl:kn.length<maxLen:=by have:=zqB HI.out.1.nd HI.out.1.kn;have:=zjk Hok.out.1.ok;unfold zeF at this;unfold maxLen;omega
     have Hnl:=zH hnl;clear hnl;go_upto_region 12 with(at_mapUpdate;refine wpList_mapUpdate_own _ rfl _ _ _ 241 rfl 235 244 zfU Tryz.underlying241 _ bm kn.length (zff kn) rfl H7.out.set Hnl.out _ _ (zfe v.e) rfl rfl HKY.out (.agg []) [] unitElem_mk ?_;intro w8 hown8 hgrow8)
     have H8:=zH<|H7.out.known hgrow8 hown8
     have k8:zd (λi=>i=bm) w7 w8:=zd.grown (zd.refl _ w7) hgrow8 (λi e _=>by injection e with e;exact e.symm);have b8:=(k8.block X (by omega) (by omega)).trans HbX7.out;have HbX8:=zH b8;have z8:=k8.size;clear hown8 hgrow8 k8 H7 HbX7;clear q0 q1 q2 q3 q4 q5 q6 q7 q8 q9 m0 m1 m2 m3 m4 m5 m6 m7;have q2:w8.cell? ⟨X,2,none⟩=some (.int .i64 v.e.x):=za b8 2;have q3:w8.cell? ⟨X,3,none⟩=some (.int .i64 v.e.y):=za b8 3;have q4:w8.cell? ⟨X,4,none⟩=some (.bool v.e.pend):=za b8 4;have q5:w8.cell? ⟨X,5,none⟩=some (.int .i64 v.e.pen.f):=za b8 5;have q6:w8.cell? ⟨X,6,none⟩=some (.int .i64 v.e.pen.b):=za b8 6;have q7:w8.cell? ⟨X,7,none⟩=some (.bool v.e.pen.bo):=za b8 7;have q8:w8.cell? ⟨X,8,none⟩=some (.bool v.e.pen.un):=za b8 8;have q9:w8.cell? ⟨X,9,none⟩=some (.bool v.e.pen.re):=za b8 9;have m0:w8.cell? ⟨M,0,none⟩=some (.int .i64 gl.x):=za H8.out.hM 0;have m1:w8.cell? ⟨M,1,none⟩=some (.int .i64 gl.y):=za H8.out.hM 1;have m2:w8.cell? ⟨M,2,none⟩=some (.int .i64 gl.pen.f):=za H8.out.hM 2;have m3:w8.cell? ⟨M,3,none⟩=some (.int .i64 gl.pen.b):=za H8.out.hM 3;have m4:w8.cell? ⟨M,4,none⟩=some (.bool gl.pen.bo):=za H8.out.hM 4;have m5:w8.cell? ⟨M,5,none⟩=some (.bool gl.pen.un):=za H8.out.hM 5;have m6:w8.cell? ⟨M,6,none⟩=some (.bool gl.pen.re):=za H8.out.hM 6;have m7:w8.cell? ⟨M,7,none⟩=some (.bool gl.letter):=za H8.out.hM 7;clear b8;go_wp2_with fail;go_at_call 225;refine(zuP bs bg g N s t v.e gl w8 (HP.out.below H8.out.bel) Hok.out.1.ok Hokv.out.inn Hok.out.2).mono ?_;rintro e w9 ⟨vS,rfl,hr9,hb9⟩;have hlen:=zi0 s v.e gl;have hlen1:1<=(zbr s v.e gl).length:=by unfold zbr;simp
     obtain⟨L,hL⟩:∃L,zbr s v.e gl=L:=⟨_,rfl⟩;have HL:=zH hL;rw[hL] at hr9 hlen hlen1;obtain⟨gs,capS,rfl⟩:=zam hr9 hlen1;have H9:=zH<|H8.out.below hb9
     have HbX9:=zH<|(hb9.block X (by omega)).trans HbX8.out
     have HW9:Hid (zcA w9 w8.heap.size gs L.length capS L):=hr9;have hgs:=hr9.lt gs rfl;have z9:=hb9.size;clear hL hr9 hb9 H8 HbX8 q2 q3 q4 q5 q6 q7 q8 q9 m0 m1 m2 m3 m4 m5 m6 m7;go_wp2_with fail;have Hsh:Hid (∀st∈L,st.b.length<=100):=by
      show∀st∈L,st.b.length<=100;rw[←HL.out];exact zlx Hok.out.1.ok Hokv.out.inn Hok.out.2
     have hvl:v.b.length<=1000:=by have:=Hokv.out.len;have:=zga x1 y1;omega
     go_loopw[89] (λvi wi=>∃(j g3 cap3:Nat),vi=.int .i64 j/\j<=L.length/\zcN w wi gl s.sp M P D base bo bm g3 cap3 (kn ++ [v.e]) (zaC (zag gl.x gl.y).length v (L.take j) (zcL o))/\zcA wi w8.heap.size gs L.length capS L/\wi.heap[X]?=some (.cells (zcJ v) 237)/\X≠g3/\gs≠g3/\w9.heap.size<=wi.heap.size) (λvi _=>L.length-(intOf vi).toNat)
     case atStart=>exact⟨0,g2,cap,rfl,Nat.zero_le _,H9.out,HW9.out,HbX9.out,by omega,by omega,Nat.le_refl _⟩
     case round=>
      obtain⟨j,g3,cap3,rfl,hj,hR2,hW2,hX2,n1,n2,z2⟩:=hrel;have HR2:=zH hR2;have HW2:=zH hW2;have HX2:=zH hX2;clear hR2 hX2 H9 HW9 HbX9;by_cases hc:j<L.length
      ·have hc':(j:Int)<(L.length:Int):=by omega
       obtain⟨c0,c1,c2,c3,c4,c5,c6,c7,c8,c9⟩:=zh2 (zbt hW2 hc);have hul:(gW L j).b.length<=100:=Hsh.out _ (by rw[zrh hc];exact List.getElem_mem hc);obtain⟨u,hu⟩:∃u,gW L j=u:=⟨_,rfl⟩;have Hu:=zH hu;rw[hu] at c0 c1 c2 c3 c4 c5 c6 c7 c8 c9 hul;clear hW2 hu;go_upto_region 15 with fail
       have hZ:∃w10 Z,wr.alloc (.cells (zcJ u) 237)=w10/\wr.heap.size=Z/\Below wr.heap.size wr w10/\w10.heap[Z]?=some (.cells (zcJ u) 237)/\w10.heap.size=Z+1:=⟨_,_,rfl,rfl,(Below.refl _ _).alloc (Nat.le_refl _) _,zf _ _,by simp⟩;obtain⟨w10,Z,hw10,hZe,b10,hy,zZ⟩:=hZ;simp only[zcJ] at hw10;rw[hw10,hZe];have hx:=(b10.block X (by omega)).trans HX2.out;have HB10:=zH b10;have x0:w10.cell? ⟨X,0,none⟩=some (.string ⟨v.b.toArray⟩):=za hx 0;have x1:w10.cell? ⟨X,1,none⟩=some (.int .i64 v.k):=za hx 1;have x2:w10.cell? ⟨X,2,none⟩=some (.int .i64 v.e.x):=za hx 2;have x3:w10.cell? ⟨X,3,none⟩=some (.int .i64 v.e.y):=za hx 3;have x4:w10.cell? ⟨X,4,none⟩=some (.bool v.e.pend):=za hx 4;have x5:w10.cell? ⟨X,5,none⟩=some (.int .i64 v.e.pen.f):=za hx 5;have x6:w10.cell? ⟨X,6,none⟩=some (.int .i64 v.e.pen.b):=za hx 6;have x7:w10.cell? ⟨X,7,none⟩=some (.bool v.e.pen.bo):=za hx 7;have x8:w10.cell? ⟨X,8,none⟩=some (.bool v.e.pen.un):=za hx 8;have x9:w10.cell? ⟨X,9,none⟩=some (.bool v.e.pen.re):=za hx 9;have y0:w10.cell? ⟨Z,0,none⟩=some (.string ⟨u.b.toArray⟩):=za hy 0;have y1:w10.cell? ⟨Z,1,none⟩=some (.int .i64 u.k):=za hy 1;have y2:w10.cell? ⟨Z,2,none⟩=some (.int .i64 u.e.x):=za hy 2;have y3:w10.cell? ⟨Z,3,none⟩=some (.int .i64 u.e.y):=za hy 3;have y4:w10.cell? ⟨Z,4,none⟩=some (.bool u.e.pend):=za hy 4;have y5:w10.cell? ⟨Z,5,none⟩=some (.int .i64 u.e.pen.f):=za hy 5;have y6:w10.cell? ⟨Z,6,none⟩=some (.int .i64 u.e.pen.b):=za hy 6;have y7:w10.cell? ⟨Z,7,none⟩=some (.bool u.e.pen.bo):=za hy 7;have y8:w10.cell? ⟨Z,8,none⟩=some (.bool u.e.pen.un):=za hy 8;have y9:w10.cell? ⟨Z,9,none⟩=some (.bool u.e.pen.re):=za hy 9;clear hw10 hx hy b10 c0 c1 c2 c3 c4 c5 c6 c7 c8 c9;go_wp2_with fail;go_at_call 226;refine(zvN v u w10 hvl (by omega)).mono ?_;rintro e w11 ⟨rfl,hb11⟩;have HB11:=zH<|HB10.out.trans (hb11.mono (by omega))
       have z11:=hb11.size;obtain⟨y,hy⟩:∃y,zaF v u=y:=⟨_,rfl⟩;have Hy:=zH hy;rw[hy];clear hb11 hy x0 x1 x2 x3 x4 x5 x6 x7 x8 x9 y0 y1 y2 y3 y4 y5 y6 y7 y8 y9;go_upto_region 16 with fail
       have hY:∃w12 Y,w11.alloc (.cells (zcJ y) 237)=w12/\w11.heap.size=Y/\Below wr.heap.size wr w12/\w12.heap[Y]?=some (.cells (zcJ y) 237)/\w11.heap.size<=w12.heap.size:=⟨_,_,rfl,rfl,HB11.out.alloc HB11.out.size _,zf _ _,by simp⟩;obtain⟨w12,Y,hw12,hYe,b12,hx,z12⟩:=hY;simp only[zcJ] at hw12;rw[hw12,hYe];have H12:=zH<|HR2.out.below b12
       have HB12:=zH b12;have x0:w12.cell? ⟨Y,0,none⟩=some (.string ⟨y.b.toArray⟩):=za hx 0;have x1:w12.cell? ⟨Y,1,none⟩=some (.int .i64 y.k):=za hx 1;have x2:w12.cell? ⟨Y,2,none⟩=some (.int .i64 y.e.x):=za hx 2;have x3:w12.cell? ⟨Y,3,none⟩=some (.int .i64 y.e.y):=za hx 3;have x4:w12.cell? ⟨Y,4,none⟩=some (.bool y.e.pend):=za hx 4;have x5:w12.cell? ⟨Y,5,none⟩=some (.int .i64 y.e.pen.f):=za hx 5;have x6:w12.cell? ⟨Y,6,none⟩=some (.int .i64 y.e.pen.b):=za hx 6;have x7:w12.cell? ⟨Y,7,none⟩=some (.bool y.e.pen.bo):=za hx 7;have x8:w12.cell? ⟨Y,8,none⟩=some (.bool y.e.pen.un):=za hx 8;have x9:w12.cell? ⟨Y,9,none⟩=some (.bool y.e.pen.re):=za hx 9;obtain⟨pl,hpl⟩:∃pl,zag gl.x gl.y=pl:=⟨_,rfl⟩;have Hpl:=zH hpl;have d0:w12.cell? ⟨D,0,none⟩=some (.string ⟨pl.toArray⟩):=by rw[←hpl];exact za H12.out.hD 0
       have e1:((({data:=y.b.toArray}:ByteArray).size:Nat):Int)=(y.b.length:Int):=rfl;have e2:((({data:=pl.toArray}:ByteArray).size:Nat):Int)=(pl.length:Int):=rfl;have zr:=HB12.out.size;clear hw12 hx b12 hpl HB10 HB11 hZe;have hlp:(zaC (zag gl.x gl.y).length v (L.take j) (zcL o)).length<100000:=by
        have a:=zgK (n:=(zag gl.x gl.y).length) (w:=v) (L.take j) (zcL o);have b:=zhS HI.out.2.2.2;rw[List.length_take] at a;omega
       have Hlp:=zH hlp;clear hlp;by_cases hyl:y.b.length<pl.length
       ·have hyl':(y.b.length:Int)<(pl.length:Int):=by omega
        go_wp2_with fail;go_at_call 227;refine(zuB bo base g3 cap3 _ y w12 H12.out.hp Hlp.out).mono ?_;rintro e w13 ⟨g4,cap4,rfl,h13,k13,og⟩;have H13:Hid (zcN w w13 gl s.sp M P D base bo bm g4 cap4 (kn ++ [v.e]) (zaC (zag gl.x gl.y).length v (L.take (j+1)) (zcL o))):=by
         show zcN w w13 gl s.sp M P D base bo bm g4 cap4 (kn ++ [v.e]) (zaC (zag gl.x gl.y).length v (L.take (j+1)) (zcL o));rw[zfW _ hc,Hu.out,Hy.out,if_pos (by rw[Hpl.out];exact hyl)];exact H12.out.pushed h13 k13 og
        have HW13:Hid (zcA w13 w8.heap.size gs L.length capS L):=ZH HW2.out (λi e=>by
         have e:gs=i:=by injection e
         rw[←e];exact(k13.block gs (by omega) (by omega)).trans (HB12.out.block gs (by omega)))
        have HX13:=zH<|(k13.block X (by omega) (by omega)).trans ((HB12.out.block X (by omega)).trans HX2.out)
        have z13:=k13.size;have n3:X≠g4/\gs≠g4:=by omega
        clear h13 k13 og x0 x1 x2 x3 x4 x5 x6 x7 x8 x9 d0;go_wp2_with fail;go_roundw
        case rel=>exact⟨j+1,g4,cap4,by go_num,by omega,H13.out,HW13.out,HX13.out,n3.1,n3.2,by omega⟩
        case measure=>simp[intOf];omega
       ·have hyl':¬((y.b.length:Int)<(pl.length:Int)):=by omega
        go_wp2_with fail;have H13:Hid (zcN w w12 gl s.sp M P D base bo bm g3 cap3 (kn ++ [v.e]) (zaC (zag gl.x gl.y).length v (L.take (j+1)) (zcL o))):=by
         show zcN w w12 gl s.sp M P D base bo bm g3 cap3 (kn ++ [v.e]) (zaC (zag gl.x gl.y).length v (L.take (j+1)) (zcL o));rw[zfW _ hc,Hu.out,Hy.out,if_neg (by rw[Hpl.out];exact hyl)];exact H12.out
        have HW13:Hid (zcA w12 w8.heap.size gs L.length capS L):=ZH HW2.out (λi e=>by
         have e:gs=i:=by injection e
         rw[←e];exact HB12.out.block gs (by omega))
        go_roundw
        case rel=>exact⟨j+1,g3,cap3,by go_num,by omega,H13.out,HW13.out,(HB12.out.block X (by omega)).trans HX2.out,n1,n2,by omega⟩
        case measure=>simp[intOf];omega
      ·have ej:j=L.length:=by omega
       have Hej:=zH ej;clear hW2;have hcn:¬((j:Int)<(L.length:Int)):=by omega
       clear ej;go_wp2_with fail;go_roundg k
       case measure=>omega
       case rel=>
        have hat2:gl.isAt (zbD o).e=false:=by rw[Hv.out];exact Hat.out
        have a:=zc7.fresh Hok.out.1 Hok.out.2 HI.out.1 hat2 (by rw[Hv.out];exact Hkb.out);have b:=HI.out.2.2.1;rw[zds,if_neg (by rw[hat2];decide),if_neg (by rw[Hv.out,Hkb.out];decide)] at b;have c:=HR2.out;rw[Hej.out,List.take_length,←HL.out] at c;rw[Hv.out] at a b;exact⟨by omega,g3,cap3,kn ++ [v.e],_,c,a.1,by have:=a.2;have:=HI.out.2.1;omega,b⟩
end
end Go.Proofs.YtjlfibhbfdckpaaGreatDoor
